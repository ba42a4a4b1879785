"""[3], [5], [6], [11] and [50]: whether wished standings can come, with a run or a bar."""

import copy
import random
import unittest

from openlanes.bars import is_bar
from openlanes.errors import TooMany
from openlanes.lanes import Lanes
from openlanes.layers import Layers
from openlanes.programs import Program
from openlanes.systems import System
from openlanes.ways import bar, can_come, way
from tests.byhand import is_over, lowest, some_model, some_standing, some_wished
from tests.helpers import NEW, check_error, check_most, greatest
from tests.samples import ALONE, JOBS, PAIRS, WAITING, jobs


def leads(system, steps, wished):
    return any(is_over(system.run(system.first, steps)[-1], y) for y in wished)


class AgainstRunsTest(unittest.TestCase):
    def compare(self, model, wished):
        """Checks all three against runs by hand; returns the length of the way, or None."""
        system = model.made()
        comes, steps, bars = can_come(system, wished), way(system, wished), bar(system, wished)
        fewest = model.fewest(system.first, wished, 5)
        if comes:
            self.assertIs(comes, True)
            self.assertIsNone(bars)
            self.assertIs(system.is_run(system.first, steps), True)
            self.assertTrue(leads(system, steps, wished))
            self.assertEqual(fewest, len(steps) if len(steps) <= 5 else None)
            return len(steps)
        self.assertIs(comes, False)
        self.assertIsNone(steps)
        self.assertIsNone(fewest)
        self.assertIs(bars.__class__, list)
        self.assertEqual(bars, lowest(bars))
        self.assertTrue(is_bar(system, wished, system.first, bars))
        self.assertTrue(model.is_bar(wished, system.first, bars))
        layers = Layers(system, wished)
        self.assertEqual(bars, layers.layer(layers.last))
        return None

    def test_systems_at_random(self):
        told = []
        for seed in range(120):
            chance = random.Random(seed)
            model = some_model(chance)
            told.append(self.compare(model, some_wished(chance, model)))
        self.assertTrue({None, 0, 1, 2, 3} <= set(told))
        self.assertGreater(told.count(None), 30)
        self.assertGreater(len(told) - told.count(None), 30)

    def test_each_standing_of_the_samples_with_few_clients(self):
        for model in (JOBS, ALONE):
            for standing in model.box(1):
                self.compare(model, [standing])

    def test_shortest_runs_with_all_clients_that_they_can_use(self):
        lengths = set()
        for model in (JOBS, WAITING, PAIRS):
            system = model.made()
            states = model.fixed_states((3,) * len(model.kinds))
            chance = random.Random(1)
            for _ in range(30):
                wished = [some_standing(chance, model, 2)]
                fewest, steps = model.fixed_fewest(wished, states), way(system, wished)
                if fewest is not None:
                    self.assertLessEqual(len(steps), fewest)
                    if fewest <= 3:
                        self.assertEqual(len(steps), fewest)
                    lengths.add(len(steps))
        self.assertGreater(len(lengths), 4)

    def test_what_can_come_can_come_with_fewer_clients(self):
        for seed in range(40):
            chance = random.Random(seed)
            model = some_model(chance)
            system = model.made()
            place, content, counts = some_standing(chance, model, 2)
            if can_come(system, [(place, content, counts)]):
                low = (place, content, tuple(n // 2 for n in counts))
                self.assertIs(can_come(system, [low]), True)
                self.assertLessEqual(len(way(system, [low])), len(way(system, [(place, content, counts)])))


class EdgesTest(unittest.TestCase):
    def test_the_example(self):
        system = jobs()
        wished = [system.at(1, system.lanes.first, {})]
        self.assertIs(can_come(system, wished), True)
        self.assertEqual(way(system, wished), [("user", 0, 0), ("", 0, 1), ("user", 1, 0), ("", 0, 0)])
        self.assertIsNone(bar(system, wished))

    def test_no_wished_standings(self):
        for model in (JOBS, ALONE):
            system = model.made()
            self.assertIs(can_come(system, []), False)
            self.assertIsNone(way(system, [], most=1))
            self.assertEqual(bar(system, [], most=1), [])

    def test_the_first_standing(self):
        system = jobs()
        self.assertIs(can_come(system, [system.first]), True)
        self.assertEqual(way(system, [system.first]), [])
        self.assertIsNone(bar(system, [system.first]))

    def test_twice_and_above_one_another(self):
        system = PAIRS.made()
        low, high = (1, system.lanes.first, (0, 1, 0)), (1, system.lanes.first, (2, 1, 5))
        for wished in ([low, low], [high, low], [low, high, low]):
            self.assertEqual(way(system, wished), way(system, [low]))
            self.assertEqual(bar(system, wished), bar(system, [low]))
        self.assertGreater(len(way(system, [high])), len(way(system, [low])))

    def test_what_comes_beside_what_does_not(self):
        system = ALONE.made()
        never, ever = (0, ((0, True),), ()), (2, ((0, True),), ())
        self.assertIsNone(way(system, [never]))
        self.assertEqual(way(system, [never, ever]), [("", 0, 1), ("", 1, 1)])
        self.assertEqual(bar(system, [never]), [never])

    def test_a_kind_of_one_place(self):
        system = System(Lanes({"a": 2}), Program([("any", [])]), {"k": Program([("any", [("send", "a", 0)])])})
        self.assertEqual(way(system, [(0, ((2, False),), ())]), [("k", 0, 0), ("k", 0, 0)])
        self.assertEqual(bar(system, [(0, ((1, True),), ())]), [(0, ((1, True),), ())])

    def test_a_kind_without_arms_at_place_0_never_comes(self):
        kinds = {"k": Program([("any", []), ("any", [("send", "a", 1)])])}
        system = System(Lanes({"a": 1}), Program([("any", [("else", 0)])]), kinds)
        self.assertIs(can_come(system, [(0, ((0, False),), (1,))]), False)
        self.assertEqual(bar(system, [(0, ((0, False),), (1,))]), [(0, ((0, False),), (1,))])

    def test_counts_of_12_and_400_wished_ones(self):
        system = jobs()
        self.assertEqual(len(way(system, [(0, system.lanes.first, (12,))])), 24)
        wished = [(1, content, (n,)) for content in JOBS.contents() for n in range(25)]
        self.assertEqual(len(wished), 400)
        self.assertEqual(len(way(system, wished)), 3)

    def test_what_was_returned_may_be_passed(self):
        system = PAIRS.made()
        wished = [(1, ((1, False), (0, False)), (12, 12, 3))]
        lows = Layers(system, wished).layer(1)
        self.assertGreater(max(n for x in lows for n in x[2]), 12)
        self.assertEqual(can_come(system, lows), can_come(system, wished))
        self.assertEqual(len(way(system, lows)), len(way(system, wished)) - 1)
        ended = (2, ((0, True),), ())
        bars = bar(ALONE.made(), [(0, ((0, True),), ())])
        self.assertEqual(bar(ALONE.made(), bars), bars)
        self.assertIsNone(bar(ALONE.made(), [*bars, ended]))


class TooManyTest(unittest.TestCase):
    def test_most_at_below_and_above_the_greatest_layer(self):
        done = 0
        for seed in range(80):
            chance = random.Random(seed)
            model = some_model(chance)
            system, wished = model.made(), some_wished(chance, model)
            most = greatest(system, wished)
            done += most > 2
            for act in (can_come, way, bar):
                check_most(self, most, act, system, wished)
        self.assertGreater(done, 40)

    def test_too_many_though_the_first_standing_is_wished(self):
        system = jobs()
        wished = [(place, content, (0,)) for place in (0, 1) for content in JOBS.contents()]
        for act in (can_come, way, bar):
            check_error(self, TooMany, {"most": len(wished) - 1}, act, system, wished, most=len(wished) - 1)

    def test_2000_are_not_too_many_if_most_is_not_passed(self):
        system = System(Lanes({"a": 1}), Program([("any", ())]), {"k": Program([("any", ())] * 3)})
        wished = [(0, ((0, False),), (n, 2000 - n)) for n in range(2001)]
        for act in (can_come, way, bar):
            act(system, wished[:2000])
            check_error(self, TooMany, {"most": 2000}, act, system, wished)


class KeptTest(unittest.TestCase):
    def setUp(self):
        self.system = PAIRS.made()
        self.comes = [(1, self.system.lanes.first, (0, 1, 0)), (0, ((1, True), (0, False)), (0, 0, 2))]
        self.never = [(0, ((1, False), (1, True)), (0, 0, 1))]

    def test_the_arguments_stay(self):
        for wished in (self.comes, self.never):
            kept = copy.deepcopy(wished)
            for act in (can_come, way, bar):
                act(self.system, wished)
            self.assertEqual(wished, kept)
        self.assertEqual(self.system, PAIRS.made())

    def test_a_changed_result_changes_no_answer_and_asking_by_turns_tells_the_same(self):
        first = way(self.system, self.comes), bar(self.system, self.never)
        kept = copy.deepcopy(first)
        for row in first:
            self.assertTrue(row)
            row.clear()
        way(jobs(), [(1, jobs().lanes.first, (3,))])
        self.assertEqual((way(self.system, self.comes), bar(self.system, self.never)), kept)
        self.assertEqual((way(PAIRS.made(), self.comes), bar(PAIRS.made(), self.never)), kept)

    def test_equal_arguments_tell_the_very_same(self):
        for seed in range(40):
            chance = random.Random(seed)
            model = some_model(chance)
            wished = some_wished(chance, model)
            for act in (can_come, way, bar):
                self.assertEqual(act(model.made(), wished), act(model.turned().made(), copy.deepcopy(wished)))

    def test_renamed_in_the_same_order_all_is_the_same(self):
        for seed in range(40):
            chance = random.Random(seed)
            model = some_model(chance)
            wished = some_wished(chance, model)
            one, other = model.made(), model.renamed(NEW).made()
            self.assertEqual(bar(one, wished), bar(other, wished))
            steps = way(one, wished)
            if steps is not None:
                steps = [(NEW[who], place, index) for who, place, index in steps]
            self.assertEqual(steps, way(other, wished))


if __name__ == "__main__":
    unittest.main()
