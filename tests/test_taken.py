"""[3], [11] and [71]: arms that are taken in no run."""

import random
import unittest

from openlanes.errors import TooMany
from openlanes.taken import never_taken
from openlanes.ways import bar, way
from tests.byhand import Model, some_lively_model, some_model
from tests.helpers import NEW, check_error, check_most, greatest
from tests.samples import ALONE, JOBS, PAIRS, WAITING


def random_models(many):
    return [make(random.Random(seed)) for seed in range(many) for make in (some_model, some_lively_model)]


def places_of(model, who):
    return model.kinds[who] if who else model.server


def all_steps(model):
    """The tuples (who, place, index) of all arms, those of the places 0 of the kinds, too."""
    return [(who, place, index) for who in ["", *sorted(model.kinds)]
            for place, (_, arms) in enumerate(places_of(model, who)) for index in range(len(arms))]


def taking(model, step):
    """The wished standings: it can be made, and nobody is at a seat but the one who makes it."""
    who, place, index = step
    counts = tuple(int(seat == (who, place)) for seat in model.seats)
    return [(at, content, counts) for at in (range(len(model.server)) if who else [place])
            for content in model.contents() if index in [x[0] for x in model.moves(places_of(model, who), place, content)]]


class AgainstRunsTest(unittest.TestCase):
    def compare(self, model):
        """Checks each tuple that is told and each that is not; returns how many are told."""
        system = model.made()
        told = never_taken(system)
        self.assertIs(told.__class__, list)
        self.assertEqual(told, sorted(set(told)))
        self.assertTrue(set(told) <= set(all_steps(model)))
        for step in all_steps(model):
            wished = taking(model, step)
            steps = way(system, wished)
            if step in told:
                self.assertIsNone(steps)
                self.assertTrue(model.is_bar(wished, system.first, bar(system, wished)))
            else:
                self.assertTrue(system.is_run(system.first, [*steps, step]))
        by_few = {step for state in model.fixed_states((2,) * len(model.kinds)) for step, _ in model.fixed_steps(state)}
        self.assertEqual(by_few & set(told), set())
        return len(told)

    def test_systems_at_random(self):
        told = [self.compare(model) for model in random_models(30)]
        self.assertGreater(len([many for many in told if many]), 20)
        self.assertGreater(told.count(0), 1)

    def test_samples(self):
        self.assertEqual([self.compare(model) for model in (JOBS, ALONE, PAIRS)], [0, 0, 0])


class EdgesTest(unittest.TestCase):
    def test_arms_behind_equal_ones_and_else_arms(self):
        arms = (("send", "a", 0), ("else", 0), ("send", "a", 0), ("take", "a", 0))
        self.assertEqual(never_taken(Model({"a": 1}, [("first", arms)], {}).made()), [("", 0, 1), ("", 0, 2)])
        self.assertEqual(never_taken(Model({"a": 1}, [("any", arms)], {}).made()), [("", 0, 1)])
        self.assertEqual(never_taken(Model({"a": 1}, [("any", arms[:3])], {}).made()), [])

    def test_places_0_of_kinds(self):
        model = Model({"a": 1}, [("any", ())], {
            "k": [("any", (("take", "a", 1), ("ended", "a", 0), ("send", "a", 0))), ("any", (("close", "a", 1),))],
            "l": [("any", (("else", 0),))],
        })
        self.assertEqual(never_taken(model.made()), [])
        less = Model({"a": 1}, [("any", ())], {"k": [("any", (("take", "a", 1),)), ("any", (("close", "a", 1),))],
                                               "l": [("any", (("else", 0), ("ended", "a", 0)))]})
        self.assertEqual(never_taken(less.made()), [("k", 0, 0), ("k", 1, 0), ("l", 0, 1)])

    def test_places_without_arms_and_without_kinds(self):
        self.assertEqual(never_taken(Model({"a": 1}, [("any", ())], {}).made(), most=1), [])
        self.assertEqual(never_taken(Model({"a": 1}, [("any", ()), ("any", (("else", 0),))], {}).made()), [("", 1, 0)])

    def test_more_signals_than_the_lane_holds(self):
        model = Model({"a": 1, "b": 2}, [("any", (("send", "b", 1),)), ("any", (("send", "b", 2),)), ("any", (
            ("send", "b", 0), ("send", "a", 2), ("take", "b", 2)))], {})
        self.assertEqual(never_taken(model.made()), [])
        model = Model({"a": 1, "b": 2}, [*model.server[:2], ("any", (("send", "b", 0),))], {})
        self.assertEqual(never_taken(model.made()), [("", 2, 0)])


class TooManyTest(unittest.TestCase):
    def test_most_at_below_and_above_the_greatest_layer_of_all_arms(self):
        not_told = 0
        for model in random_models(25) + [JOBS, WAITING]:
            system, told = model.made(), never_taken(model.made())
            found = {step: greatest(system, taking(model, step)) for step in all_steps(model)}
            check_most(self, max(found.values(), default=0), never_taken, system)
            not_told += max(found.values(), default=0) > max([0] + [found[step] for step in told])
        self.assertGreater(not_told, 10)

    def test_too_many_wished_ones(self):
        model = Model({"a": 3}, [("any", (("else", 0),))], {"k": [("any", (("else", 0),))]})
        check_error(self, TooMany, {"most": 7}, never_taken, model.made(), most=7)
        self.assertEqual(never_taken(model.made(), most=8), [])


class KeptTest(unittest.TestCase):
    def test_asking_by_turns_tells_the_same_whatever_becomes_of_the_results(self):
        one, other = random_models(3)[2].made(), PAIRS.made()
        told = [never_taken(one), never_taken(other)]
        kept = [list(row) for row in told]
        for row in told:
            row.clear()
        self.assertEqual([never_taken(one), never_taken(other)], kept)
        self.assertEqual((one, other), (random_models(3)[2].made(), PAIRS.made()))

    def test_equal_arguments_and_names_in_the_same_order(self):
        for model in random_models(25):
            told = never_taken(model.made())
            self.assertEqual(never_taken(model.turned().made()), told)
            renamed = [(NEW[who], place, index) for who, place, index in told]
            self.assertEqual(never_taken(model.renamed(NEW).made()), renamed)


if __name__ == "__main__":
    unittest.main()
