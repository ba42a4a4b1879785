"""[3] and [42]: bars."""

import copy
import random
import unittest

from openlanes.bars import is_bar
from openlanes.layers import Layers
from tests.byhand import some_model, some_standing
from tests.helpers import STRANGE, deep
from tests.samples import ALONE, PAIRS, jobs


class BarsTest(unittest.TestCase):
    def compare(self, model, wished, standing, bars, held):
        told = is_bar(model.made(), wished, standing, bars, held=held)
        self.assertIs(told, model.is_bar(wished, standing, bars, held))
        return told

    def test_lists_at_random(self):
        told = [0, 0]
        for seed in range(60):
            chance = random.Random(seed)
            model = some_model(chance)
            system = model.made()
            wished = [some_standing(chance, model, 1) for _ in range(chance.randint(0, 2))]
            for held in (False, True):
                layers = Layers(system, wished, held=held)
                bars = layers.layer(layers.last)
                if max([0] + [n for low in bars for n in low[2]]) > 3:
                    continue
                standing = some_standing(chance, model, 2)
                rows = [bars, bars + bars[:1], bars[1:], bars[:-1], wished, [], layers.layer(0), layers.layer(1)]
                rows.append([*bars, some_standing(chance, model, 1)])
                for row in rows:
                    chance.shuffle(row)
                    told[self.compare(model, wished, standing, row, held)] += 1
        self.assertGreater(min(told), 100)

    def test_the_last_layer_and_lists_that_miss_something(self):
        system = jobs()
        wished = [system.first]
        layers = Layers(system, wished)
        bars, ended = layers.layer(layers.last), (1, system.lanes.first, (7,))
        self.assertIs(is_bar(system, wished, ended, bars), True)
        self.assertIs(is_bar(system, wished, ended, bars[::-1] * 2), True)
        self.assertIs(is_bar(system, wished, system.first, bars), False)
        for index in range(len(bars)):
            self.assertIs(is_bar(system, wished, ended, bars[:index] + bars[index + 1:]), False)

    def test_each_of_the_three_conditions(self):
        system = ALONE.made()
        wished = [(2, ((0, True),), ())]
        bars = [(1, ((n, True),), ()) for n in range(3)] + [(0, ((n, False),), ()) for n in range(3)] + wished
        barred = (2, ((1, True),), ())
        self.assertIs(is_bar(system, wished, barred, bars), True)
        self.assertIs(is_bar(system, wished, barred, bars[:-1]), False)
        self.assertIs(is_bar(system, wished, barred, bars[1:]), False)
        self.assertIs(is_bar(system, wished, barred, [*bars, barred]), False)
        self.assertIs(is_bar(system, wished, (1, ((2, True),), ()), bars), False)

    def test_held_beside_not_held(self):
        system = ALONE.made()
        wished = [(2, ((0, True),), ())]
        self.assertIs(is_bar(system, wished, system.first, wished, held=True), True)
        self.assertIs(is_bar(system, wished, system.first, wished, held=False), False)
        self.assertIs(is_bar(system, wished, system.first, wished), False)

    def test_no_wished_standings(self):
        system = jobs()
        self.assertIs(is_bar(system, [], system.first, []), True)
        self.assertIs(is_bar(system, [system.first], system.first, []), False)
        self.assertIs(is_bar(system, [], system.first, [system.first]), False)

    def test_great_counts(self):
        system = jobs()
        ended = [(1, content, (200,)) for content in system.lanes.contents()]
        low = (1, system.lanes.first, (199,))
        self.assertIs(is_bar(system, [], low, ended), False)
        ended = [(0, content, (0,)) for content in system.lanes.contents()]
        wished, low = [(0, system.lanes.first, (200,))], (1, system.lanes.first, (10**30,))
        self.assertIs(is_bar(system, wished, low, ended), True)

    def test_any_value(self):
        system = jobs()
        barred = (1, system.lanes.first, (0,))
        good = [(0, content, (0,)) for content in system.lanes.contents()]
        self.assertIs(is_bar(system, [system.first], barred, good), True)
        for thing in [*STRANGE, tuple(good), {row: 1 for row in good}, set(good), good[0], 0, 1, deep(29)]:
            self.assertIs(is_bar(system, [system.first], barred, thing), False, repr(thing))
        content = system.lanes.first
        for thing in [
            *STRANGE, list(good[0]), (0, content), (0, content, (0,), 0), (2, content, (0,)), (0, content, (-1,)),
            (False, content, (0,)), (0, content, (False,)), (0, content, [0]), (0, content, ()), (0, content, (0, 0)),
            (0, ((0, 0), (0, 0)), (0,)), (0, [(0, False), (0, False)], (0,)), (0, ((0, False),), (0,)), 0, deep(29),
        ]:
            self.assertIs(is_bar(system, [system.first], barred, [*good, thing]), False, repr(thing))
            self.assertIs(is_bar(system, [system.first], barred, [thing, *good]), False, repr(thing))

    def test_what_is_passed_stays(self):
        system = PAIRS.made()
        wished = [(1, system.lanes.first, (0, 1, 0))]
        layers = Layers(system, wished)
        bars = layers.layer(layers.last)[::-1] * 2
        kept = copy.deepcopy((wished, bars))
        told = [is_bar(system, wished, system.first, bars) for _ in range(2)]
        self.assertEqual(told[0], told[1])
        self.assertEqual((wished, bars), kept)


if __name__ == "__main__":
    unittest.main()
