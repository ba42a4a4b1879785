"""[3], [11] and [52]: how many clients can be at a seat at the same time."""

import random
import unittest

from openlanes.errors import NoKind, NoSeat, TooMany
from openlanes.lanes import Lanes
from openlanes.programs import Program
from openlanes.systems import System
from openlanes.together import together
from openlanes.ways import bar, way
from tests.byhand import Model, some_model
from tests.helpers import NEW, STRANGE, check_error, check_most, greatest
from tests.samples import ALONE, JOBS, PAIRS, WAITING, jobs

# At most two of the kind k, one by one, and one of the kind l can be out at a time.
FEW = Model(
    {"a": 2, "b": 1},
    [("any", ())],
    {"k": [("any", (("send", "a", 1),)), ("any", ())], "l": [("any", (("close", "b", 1),)), ("any", ())]},
)


def in_number(model, seat, many):
    """The standings, with any place and content, in which so many are at the seat and nobody at another one."""
    counts = tuple(many if x == seat else 0 for x in model.seats)
    return [(place, content, counts) for place in range(len(model.server)) for content in model.contents()]


def all_seats(models):
    return [(model, kind, place) for model in models for kind, place in model.seats]


def random_models(many):
    return [some_model(random.Random(seed)) for seed in range(many)]


class AgainstRunsTest(unittest.TestCase):
    def compare(self, model, kind, place, limit):
        system = model.made()
        told = together(system, kind, place, limit=limit)
        self.assertIs(told.__class__, int)
        self.assertLessEqual(told, limit)
        wished = in_number(model, (kind, place), told)
        steps = way(system, wished)
        end = system.run(system.first, steps)[-1]
        self.assertGreaterEqual(end[2][system.seat(kind, place)], told)
        if told < limit:
            wished = in_number(model, (kind, place), told + 1)
            self.assertTrue(model.is_bar(wished, system.first, bar(system, wished)))
        by_hand = [x[2][system.seat(kind, place)] for x in map(model.standing_of, model.fixed_states((2, 2)))]
        self.assertLessEqual(min(max(by_hand), limit), told)
        return told

    def test_systems_at_random(self):
        told = [self.compare(model, kind, place, 3) for model, kind, place in all_seats(random_models(60))]
        self.assertTrue({0, 1, 2, 3} <= set(told))

    def test_samples(self):
        for model, kind, place in all_seats([JOBS, WAITING, PAIRS, FEW]):
            for limit in (1, 2, 4):
                self.compare(model, kind, place, limit)


class EdgesTest(unittest.TestCase):
    def test_the_example(self):
        self.assertEqual(together(jobs(), "user", 1), 3)

    def test_limits(self):
        for limit in range(7):
            self.assertEqual(together(jobs(), "user", 1, limit=limit), limit)
            self.assertEqual(together(FEW.made(), "k", 1, limit=limit), min(limit, 2))
            self.assertEqual(together(FEW.made(), "l", 1, limit=limit), min(limit, 1))
        self.assertEqual(together(FEW.made(), "k", 1), 2)

    def test_a_limit_of_0_looks_at_nothing(self):
        self.assertEqual(together(jobs(), "user", 1, limit=0, most=1), 0)
        self.assertIs(together(jobs(), "user", 1, limit=0).__class__, int)

    def test_a_kind_without_arms_at_place_0_never_comes(self):
        kinds = {"k": Program([("any", []), ("any", [("send", "a", 1)])])}
        system = System(Lanes({"a": 1}), Program([("any", [("else", 0)])]), kinds)
        self.assertEqual(together(system, "k", 1), 0)

    def test_what_is_not_there(self):
        for kind in ("", "users", "use", "server", "k", "User"):
            check_error(self, NoKind, {"kind": kind}, together, jobs(), kind, 1)
            check_error(self, NoKind, {"kind": kind}, together, jobs(), kind, 7, most=1)
        for place in (0, 2, -1, 10**30):
            check_error(self, NoSeat, {"place": place}, together, jobs(), "user", place)
            check_error(self, NoSeat, {"place": place}, together, jobs(), "user", place, limit=0, most=1)
        check_error(self, NoKind, {"kind": ""}, together, ALONE.made(), "", 0, limit=0)
        one = Model({"a": 1}, [("any", ())], {"k": [("any", (("send", "a", 0),))]}).made()
        for place in (0, 1):
            check_error(self, NoSeat, {"place": place}, together, one, "k", place)

    def test_strange_kinds_and_places(self):
        for thing in STRANGE:
            if thing.__class__ in (int, str, bool):
                error, field = (NoKind, "kind") if isinstance(thing, str) else (NoSeat, "place")
                seat = (thing, 1) if isinstance(thing, str) else ("user", thing)
                check_error(self, error, {field: thing}, together, jobs(), *seat)


class TooManyTest(unittest.TestCase):
    def test_most_at_below_and_above_the_greatest_layer_that_is_looked_at(self):
        later = unseen = 0
        for model, kind, place in all_seats(random_models(40) + [JOBS, FEW]):
            system = model.made()
            for limit in (1, 3):
                told = together(system, kind, place, limit=limit, most=10000)
                found = [greatest(system, in_number(model, (kind, place), many)) for many in range(1, limit + 2)]
                looked_at = found[:min(told + 1, limit)]
                check_most(self, max(looked_at), together, system, kind, place, limit=limit)
                later += max(looked_at) > found[0]
                unseen += max(found) > max(looked_at)
        self.assertGreater(later, 3)
        self.assertGreater(unseen, 10)

    def test_too_many_wished_ones(self):
        many = len(JOBS.server) * len(JOBS.contents())
        check_error(self, TooMany, {"most": many - 1}, together, jobs(), "user", 1, limit=1, most=many - 1)


class KeptTest(unittest.TestCase):
    def test_asking_by_turns_tells_the_same(self):
        one, other = FEW.made(), PAIRS.made()
        told = [[together(one, "k", 1), together(other, "l", 1), together(one, "l", 1, limit=6)] for _ in range(3)]
        self.assertEqual(told, [told[0]] * 3)
        self.assertEqual((one, other), (FEW.made(), PAIRS.made()))
        self.assertEqual(together(FEW.turned().made(), "k", 1), told[0][0])

    def test_renamed_in_the_same_order_all_is_the_same(self):
        for model, kind, place in all_seats(random_models(30)):
            other = model.renamed(NEW).made()
            self.assertEqual(together(other, NEW[kind], place), together(model.made(), kind, place))


if __name__ == "__main__":
    unittest.main()
