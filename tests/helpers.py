"""What several tests use: values of all kinds, and a look at an error as a whole."""

import openlanes.errors
from openlanes.errors import LaneError, TooMany
from openlanes.lanes import Lanes
from openlanes.layers import Layers
from openlanes.programs import Program
from openlanes.systems import System

ERRORS = [thing for thing in vars(openlanes.errors).values() if isinstance(thing, type)]


class Odd:
    """Something that no function of the package knows."""


class Same:
    """Something that calls itself equal to everything."""

    def __eq__(self, other):
        return True


ODD = Odd()

# Other names for the lanes and kinds of the models at random, in the same order.
NEW = {"": "", "a": "bb", "b": "bbb", "k": "x", "l": "xa"}

# Values of all kinds but floats; none is an integer from 0 on, a word, an arm, a content, and only "else" is a name.
STRANGE = [
    None, True, False, -1, "", "abcdefghi", "A", "a b", "a1", "a\n", "else", b"a", (), (None,), ("a",), ((),),
    frozenset(), set(), {1, 2}, {"a"}, {}, {1: 2}, {None: None}, ODD, Odd, Same(), len, ValueError, ValueError("a"),
    Lanes({"a": 1}), Program([("any", [])]), System(Lanes({"a": 1}), Program([("any", [])]), {}), range(2), object(),
]


def deep(many):
    """A tuple within a tuple, so many times."""
    thing = ()
    for _ in range(many):
        thing = (thing,)
    return thing


def check_error(case, error, fields, act, *values, **more):
    """Checks that the call raises just this error of the package, with these fields."""
    with case.assertRaises(LaneError) as caught:
        act(*values, **more)
    case.assertIs(caught.exception.__class__, error)
    case.assertEqual([c for c in ERRORS if isinstance(caught.exception, c)], [LaneError, error])
    told = vars(caught.exception)
    case.assertEqual(told, fields)
    for name in fields:
        case.assertIs(told[name].__class__, fields[name].__class__)


def sizes(layers):
    """How many least standings each layer has."""
    return [len(layers.layer(k)) for k in range(layers.last + 1)]


def greatest(system, wished, held=False):
    """How many least standings the greatest layer has."""
    return max(sizes(Layers(system, wished, held=held, most=10000)))


def check_most(case, most, act, *values, **more):
    """Checks that the call raises TooMany for one less than most, tells the same from most on; returns what it does."""
    told = act(*values, **more, most=10000)
    for enough in (most, most + 1):
        case.assertEqual(act(*values, **more, most=max(enough, 1)), told)
    for few in [few for few in {1, most // 2, most - 1} if 0 < few < most]:
        check_error(case, TooMany, {"most": few}, act, *values, **more, most=few)
    return told
