"""[2], [3], [5], [6], [11] and [41]: layers."""

import copy
import random
import unittest

from openlanes.bars import is_bar
from openlanes.errors import TooMany
from openlanes.lanes import Lanes
from openlanes.layers import Layers
from openlanes.programs import Program
from openlanes.systems import System
from tests.byhand import Model, is_over, lowest, some_model, some_standing, some_wished
from tests.helpers import NEW, check_error, sizes
from tests.samples import ALONE, JOBS, PAIRS, WAITING, jobs

# A client needs another one behind it for each step that it makes forward; so the layers get greater, then smaller.
CHAIN = Model(
    {"a": 1},
    [("any", (("take", "a", 0),))],
    {"k": [("any", (("else", 1),)), ("any", (("send", "a", 2),)), ("any", (("take", "a", 1), ("close", "a", 0)))]},
)


def greatest_count(layers):
    return max([0] + [n for k in range(layers.last + 1) for standing in layers.layer(k) for n in standing[2]])


def all_of(layers):
    return [layers.layer(k) for k in range(layers.last + 2)]


class AgainstTheBoxTest(unittest.TestCase):
    def compare(self, model, wished, held, most):
        """Compares all layers with those that are found in a box of counts; returns whether the box was enough."""
        layers = Layers(model.made(), wished, held=held)
        if greatest_count(layers) >= most:
            return False
        found = model.layers(wished, most, held)
        self.assertEqual(layers.last, len(found) - 1)
        for k, layer in enumerate(found):
            self.assertEqual(layers.layer(k), lowest(layer))
        self.assertEqual(len(layers), len(lowest(found[-1])))
        for standing in model.box(most):
            ranks = [k for k, layer in enumerate(found) if standing in layer]
            self.assertEqual(layers.rank(standing), min(ranks, default=None))
            self.assertIs(standing in layers, bool(ranks))
        return True

    def test_systems_at_random(self):
        done = 0
        for seed in range(70):
            chance = random.Random(seed)
            model = some_model(chance)
            wished = some_wished(chance, model)
            for held in (False, True):
                done += self.compare(model, wished, held, 5)
        self.assertGreater(done, 80)

    def test_samples(self):
        done = 0
        for model in (JOBS, WAITING, ALONE, CHAIN):
            for content in (model.contents()[0], model.contents()[-1]):
                for place in range(len(model.server)):
                    wished = [(place, content, (1,) * len(model.seats))]
                    for held in (False, True):
                        done += self.compare(model, wished, held, 5)
        self.assertGreater(done, 15)


class AgainstRunsTest(unittest.TestCase):
    def check_way(self, system, layers, standing, wished, held):
        """Checks that the way from the standing is a run of as many steps as its rank that leads to wished ones."""
        rank, way = layers.rank(standing), layers.way(standing)
        if rank is None:
            self.assertIsNone(way)
            self.assertIs(standing in layers, False)
            return
        self.assertIs(standing in layers, True)
        self.assertIs(rank.__class__, int)
        self.assertEqual(len(way), rank)
        self.assertIs(system.is_run(standing, way), True)
        end = system.run(standing, way)[-1]
        self.assertTrue(any(is_over(end, y) for y in wished))
        if held:
            self.assertFalse([step for step in way if step[0] == ""])
        for step in way:
            self.assertIs(step.__class__, tuple)

    def test_rank_and_way_of_systems_at_random(self):
        ranks = set()
        for seed in range(90):
            chance = random.Random(seed)
            model = some_model(chance)
            system = model.made()
            wished = some_wished(chance, model)
            for held in (False, True):
                layers = Layers(system, wished, held=held)
                for standing in [system.first, *wished, *[some_standing(chance, model, 3) for _ in range(6)]]:
                    self.check_way(system, layers, standing, wished, held)
                    rank = layers.rank(standing)
                    ranks.add(rank)
                    fewest = model.fewest(standing, wished, 5, held)
                    self.assertEqual(fewest, rank if rank is not None and rank <= 5 else None)
        self.assertTrue({None, 0, 1, 2, 3, 4, 5} <= ranks)

    def test_long_ways(self):
        chance = random.Random(5)
        for model in (JOBS, WAITING, PAIRS, CHAIN):
            system = model.made()
            for place in range(len(model.server)):
                wished = [(place, content, (3,) * len(model.seats)) for content in model.contents()[::2]]
                for held in (False, True):
                    layers = Layers(system, wished, held=held)
                    for _ in range(30):
                        self.check_way(system, layers, some_standing(chance, model, 4), wished, held)

    def test_the_last_layer_bars_what_is_in_none(self):
        bars = 0
        for seed in range(60):
            chance = random.Random(seed)
            model = some_model(chance)
            system = model.made()
            wished = some_wished(chance, model)
            for held in (False, True):
                layers = Layers(system, wished, held=held)
                lows = layers.layer(layers.last)
                for standing in [system.first, *[some_standing(chance, model, 3) for _ in range(5)]]:
                    told = is_bar(system, wished, standing, lows, held=held)
                    self.assertIs(told, standing not in layers)
                    bars += told
        self.assertGreater(bars, 50)

    def test_layers_grow_and_are_closed_upwards(self):
        for seed in range(40):
            chance = random.Random(seed)
            model = some_model(chance)
            system = model.made()
            layers = Layers(system, some_wished(chance, model))
            rows = all_of(layers)
            self.assertEqual(rows[-1], rows[-2])
            for k in range(layers.last):
                self.assertTrue(all(any(is_over(x, y) for y in rows[k + 1]) for x in rows[k]))
                self.assertNotEqual(rows[k], rows[k + 1])
                for standing in rows[k]:
                    self.assertLessEqual(layers.rank(standing), k)
                    self.assertLessEqual(layers.rank((*standing[:2], tuple(n + 200 for n in standing[2]))), k)


class EdgesTest(unittest.TestCase):
    def test_what_the_document_prints(self):
        system = jobs()
        layers = Layers(system, [system.at(1, system.lanes.first, {})])
        self.assertEqual(layers.rank(system.first), 4)
        self.assertEqual(layers.way(system.first), [("user", 0, 0), ("", 0, 1), ("user", 1, 0), ("", 0, 0)])

    def test_no_wished_standings(self):
        for held in (False, True):
            layers = Layers(jobs(), [], held=held, most=1)
            self.assertEqual((layers.last, len(layers), layers.layer(0), layers.layer(999)), (0, 0, [], []))
            first = jobs().first
            self.assertEqual((layers.rank(first), layers.way(first), first in layers), (None, None, False))

    def test_wished_twice_and_above_one_another(self):
        system = PAIRS.made()
        low, high = (1, system.lanes.first, (0, 1, 0)), (1, system.lanes.first, (2, 1, 5))
        plain = all_of(Layers(system, [low]))
        for wished in ([low, low], [high, low], [low, high, low]):
            self.assertEqual(all_of(Layers(system, wished)), plain)
            self.assertEqual(Layers(system, wished).layer(0), [low])
        self.assertEqual(Layers(system, [low]).rank(high), 0)
        self.assertGreater(Layers(system, [high]).rank(low), 0)

    def test_a_wished_standing_has_rank_0_and_an_empty_way(self):
        system = jobs()
        layers = Layers(system, [system.first])
        self.assertEqual((layers.rank(system.first), layers.way(system.first)), (0, []))
        self.assertIs(layers.rank(system.first).__class__, int)

    def test_a_standing_in_no_layer(self):
        system = jobs()
        layers = Layers(system, [system.first])
        ended = (1, system.lanes.first, (200,))
        self.assertEqual((layers.rank(ended), layers.way(ended), ended in layers), (None, None, False))

    def test_layers_far_above_the_last_one(self):
        system = jobs()
        layers = Layers(system, [system.at(1, system.lanes.first, {})])
        self.assertEqual(layers.last, 5)
        for k in (5, 6, 7, 1000, 10**30):
            self.assertEqual(layers.layer(k), layers.layer(5))
        self.assertNotEqual(layers.layer(4), layers.layer(5))
        self.assertEqual(len(layers), len(layers.layer(5)))

    def test_without_kinds(self):
        system = ALONE.made()
        layers = Layers(system, [(2, ((0, True),), ())])
        self.assertEqual((layers.rank(system.first), layers.way(system.first)), (2, [("", 0, 1), ("", 1, 1)]))
        self.assertEqual(Layers(system, [(2, ((0, True),), ())], held=True).last, 0)

    def test_a_kind_of_one_place(self):
        client = Program([("any", [("send", "a", 0), ("take", "a", 0)])])
        system = System(Lanes({"a": 2}), Program([("any", [])]), {"k": client})
        layers = Layers(system, [(0, ((2, False),), ())])
        self.assertEqual(layers.way(system.first), [("k", 0, 0), ("k", 0, 0)])
        self.assertEqual((layers.last, len(layers)), (2, 3))

    def test_held_beside_not_held(self):
        system = jobs()
        wished = [system.at(1, ((1, False), (0, False)), {})]
        free, held = Layers(system, wished), Layers(system, wished, held=True)
        self.assertEqual(free.rank(system.first), 3)
        self.assertIsNone(held.rank(system.first))
        stopped = (1, system.lanes.first, (0,))
        self.assertEqual((free.rank(stopped), held.rank(stopped)), (1, 1))
        self.assertEqual(held.layer(9), [(1, ((0, False), (0, False)), (0,)), (1, ((1, False), (0, False)), (0,))])

    def test_counts_of_200(self):
        system = PAIRS.made()
        wished = [(1, system.lanes.first, (2, 0, 1))]
        layers = Layers(system, wished)
        for content in PAIRS.contents():
            for place in (0, 1):
                rank = layers.rank((place, content, (50,) * 3))
                self.assertEqual(layers.rank((place, content, (200, 201, 210))), rank)
                self.assertEqual(layers.rank((place, content, (10**30,) * 3)), rank)
        layers = Layers(jobs(), [(0, ((0, False), (0, False)), (12,))])
        self.assertEqual(layers.rank(jobs().first), 24)
        self.assertEqual(layers.rank((0, jobs().lanes.first, (200,))), 0)

    def test_what_was_returned_may_be_passed(self):
        system = PAIRS.made()
        layers = Layers(system, [(1, system.lanes.first, (12, 0, 3))], most=10000)
        lows = layers.layer(layers.last)
        again = Layers(system, lows)
        self.assertEqual((again.last, again.layer(0)), (0, lows))


class TooManyTest(unittest.TestCase):
    def test_most_at_below_and_above_the_greatest_layer(self):
        shrinking = 0
        for seed in range(150):
            chance = random.Random(seed)
            model = some_model(chance)
            system, wished = model.made(), some_wished(chance, model)
            for held in (False, True):
                layers = Layers(system, wished, held=held)
                most = max(sizes(layers))
                shrinking += most > sizes(layers)[-1]
                for enough in (most, most + 1, 10000):
                    self.assertEqual(all_of(Layers(system, wished, held=held, most=enough)), all_of(layers))
                if most > 1:
                    check_error(self, TooMany, {"most": most - 1}, Layers, system, wished, held=held, most=most - 1)
                    check_error(self, TooMany, {"most": 1}, Layers, system, wished, held=held, most=1)
        self.assertGreater(shrinking, 2)

    def test_too_many_wished_ones(self):
        system = jobs()
        wished = [(1, content, (0,)) for content in JOBS.contents()]
        check_error(self, TooMany, {"most": len(wished) - 1}, Layers, system, wished, most=len(wished) - 1)
        check_error(self, TooMany, {"most": 3}, Layers, system, wished, held=True, most=3)
        self.assertEqual(len(Layers(system, wished, held=True, most=len(wished))), len(wished))

    def test_wished_ones_above_others_do_not_count(self):
        system = jobs()
        wished = [(1, JOBS.contents()[0], (n,)) for n in range(12)]
        self.assertEqual(Layers(system, wished, held=True, most=1).last, 0)

    def test_2000_are_not_too_many_if_most_is_not_passed(self):
        model = Model({"a": 1}, [("any", ())], {"k": [("any", ())] * 3})
        for many, is_enough in ((2000, True), (2001, False)):
            wished = [(0, ((0, False),), (n, many - n)) for n in range(many)]
            if is_enough:
                self.assertEqual(len(Layers(model.made(), wished)), many)
            else:
                check_error(self, TooMany, {"most": 2000}, Layers, model.made(), wished)


class KeptTest(unittest.TestCase):
    def setUp(self):
        self.system = PAIRS.made()
        self.wished = [(1, self.system.lanes.first, (0, 1, 0)), (0, ((1, True), (0, False)), (0, 0, 2))]

    def test_what_is_passed_stays_and_is_not_kept(self):
        kept = copy.deepcopy(self.wished)
        layers = Layers(self.system, self.wished)
        rows = all_of(layers)
        self.assertEqual(self.wished, kept)
        self.wished.clear()
        self.assertEqual(all_of(layers), rows)
        self.assertEqual(self.system, PAIRS.made())

    def test_a_changed_result_changes_no_answer(self):
        layers = Layers(self.system, self.wished)
        rows, way = all_of(layers), layers.way(self.system.first)
        for row in rows:
            self.assertTrue(row)
        kept = copy.deepcopy(rows), copy.deepcopy(way)
        for row in rows:
            row.clear()
        way.clear()
        self.assertEqual((all_of(layers), layers.way(self.system.first)), kept)
        self.assertEqual(len(layers), len(kept[0][-1]))

    def test_asking_by_turns_tells_the_same(self):
        one, other = Layers(self.system, self.wished), Layers(self.system, self.wished, held=True)
        third = Layers(jobs(), [(1, jobs().lanes.first, (3,))])
        told = []
        for _ in range(2):
            told.append([one.way(self.system.first), other.way(self.system.first), third.way(jobs().first), one.last,
                         all_of(third), all_of(other), one.layer(1), third.rank(jobs().first), len(one), len(other)])
        self.assertEqual(told[0], told[1])

    def test_equal_arguments_tell_the_very_same_run(self):
        for seed in range(40):
            chance = random.Random(seed)
            model = some_model(chance)
            wished = some_wished(chance, model)
            one, other = Layers(model.made(), wished), Layers(model.turned().made(), copy.deepcopy(wished))
            for standing in [some_standing(chance, model, 3) for _ in range(10)]:
                self.assertEqual(one.way(standing), other.way(standing))
            self.assertEqual(all_of(one), all_of(other))

    def test_equal_to_no_other_value(self):
        layers = Layers(self.system, self.wished)
        for thing in (self.wished, self.system, None, 1, layers.layer(0)):
            self.assertIs(layers == thing, False)
            self.assertIs(layers != thing, True)

    def test_last_can_not_be_assigned(self):
        layers = Layers(self.system, self.wished)
        with self.assertRaises(AttributeError):
            layers.last = 0


class NamesTest(unittest.TestCase):
    def test_renamed_in_the_same_order_all_is_the_same(self):
        for seed in range(30):
            chance = random.Random(seed)
            model = some_model(chance)
            wished = some_wished(chance, model)
            one, two = Layers(model.made(), wished), Layers(model.renamed(NEW).made(), wished)
            self.assertEqual(all_of(one), all_of(two))
            for standing in one.layer(one.last):
                way = [(NEW[who], place, index) for who, place, index in one.way(standing)]
                self.assertEqual(two.way(standing), way)


if __name__ == "__main__":
    unittest.main()
