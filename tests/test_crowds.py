"""[3], [7], [11] and [51]: how many clients wished standings need."""

import copy
import random
import unittest
from itertools import product

from openlanes.crowds import least_crowds, needed, suffices, way_of
from openlanes.errors import Stopped, TooMany
from openlanes.ways import can_come, way
from tests.byhand import Model, is_over, some_model, some_standing, some_wished
from tests.helpers import NEW, check_error, check_most, greatest
from tests.samples import ALONE, JOBS, PAIRS, WAITING, jobs

# Who of the kind k has sent does nothing more: another one of it takes and sends on, or one of the kind l.
INSTEAD = Model(
    {"a": 1, "b": 1},
    [("first", (("take", "b", 1), ("else", 0))), ("any", ())],
    {
        "k": [("any", (("send", "a", 1), ("take", "a", 2))), ("any", ()), ("any", (("send", "b", 2),))],
        "l": [("any", (("take", "a", 1),)), ("any", (("send", "b", 1),))],
    },
)


def needed_by_hand(model, steps):
    """The greatest number of clients of each kind who are out, by following each client for itself."""
    kinds = sorted(model.kinds)
    places, most = {kind: [] for kind in kinds}, {kind: 0 for kind in kinds}
    for who, place, index in steps:
        if who:
            if place == 0:
                places[who].append(0)
            most[who] = max(most[who], len(places[who]))
            places[who].remove(place)
            to = model.kinds[who][place][1][index][-1]
            if to:
                places[who].append(to)
    return tuple(most[kind] for kind in kinds)


def some_run(chance, model, length):
    standing, steps = (0, model.contents()[0], (0,) * len(model.seats)), []
    for _ in range(length):
        moves = model.steps(standing)
        if not moves:
            break
        step, standing = chance.choice(moves)
        steps.append(step)
    return steps


def all_crowds(model, most):
    return list(product(range(most + 1), repeat=len(model.kinds)))


def lowered(crowd):
    """The crowds with one client less."""
    return [crowd[:k] + (crowd[k] - 1,) + crowd[k + 1:] for k in range(len(crowd)) if crowd[k]]


class NeededTest(unittest.TestCase):
    def test_runs_at_random(self):
        told = set()
        for seed in range(150):
            chance = random.Random(seed)
            model = chance.choice([some_model(chance), PAIRS, WAITING, INSTEAD])
            steps = some_run(chance, model, chance.choice([0, 1, 5, 40]))
            crowd = needed(model.made(), steps)
            self.assertIs(crowd.__class__, tuple)
            self.assertEqual(crowd, needed_by_hand(model, steps))
            told.add(crowd)
        self.assertGreater(len(told), 12)

    def test_the_empty_run_and_no_kinds(self):
        self.assertEqual(needed(jobs(), []), (0,))
        self.assertEqual(needed(PAIRS.made(), []), (0, 0))
        self.assertEqual(needed(ALONE.made(), [("", 0, 0), ("", 0, 1)]), ())

    def test_who_steps_from_place_0_is_out(self):
        model = Model({"a": 2}, [("any", (("take", "a", 0),))], {
            "k": [("any", (("send", "a", 0), ("else", 1))), ("any", (("take", "a", 0),))],
            "l": [("any", (("else", 0),))],
        })
        system = model.made()
        self.assertEqual(needed(system, [("k", 0, 0)]), (1, 0))
        self.assertEqual(needed(system, [("k", 0, 0), ("k", 0, 0), ("", 0, 0)]), (1, 0))
        self.assertEqual(needed(system, [("k", 0, 0), ("k", 0, 0), ("l", 0, 0)]), (1, 1))

    def test_who_comes_back_makes_room(self):
        system = jobs()
        once = [("user", 0, 0), ("", 0, 1), ("user", 1, 0)]
        self.assertEqual(needed(system, once), (1,))
        self.assertEqual(needed(system, [*once, ("user", 0, 0)]), (1,))
        self.assertEqual(needed(system, [("user", 0, 0), ("", 0, 1), ("user", 0, 0)]), (2,))
        # The second client steps from place 0 while the first one is at the seat.
        model = Model({"a": 2}, [("any", ())], {"k": [("any", (("send", "a", 1), ("take", "a", 0))), ("any", ())]})
        self.assertEqual(needed(model.made(), [("k", 0, 0), ("k", 0, 1)]), (2,))

    def test_200_steps(self):
        self.assertEqual(needed(jobs(), [("user", 0, 0), ("", 0, 1)] * 200), (200,))

    def test_a_step_that_can_not_be_made(self):
        good = [("user", 0, 0), ("", 0, 1)]
        for bad in (("user", 2, 0), ("user", 0, 1), ("", 1, 0), ("x", 0, 0), ("", 0, 0), ("user", -1, 0)):
            check_error(self, Stopped, {"index": 2}, needed, jobs(), [*good, bad, *good])
            check_error(self, Stopped, {"index": 0}, needed, jobs(), [bad, bad])
        check_error(self, Stopped, {"index": 1}, needed, jobs(), [good[0], good[0]])


class AgainstRunsTest(unittest.TestCase):
    def compare(self, model, wished, most):
        """Compares with a search of all runs of all crowds up to most; returns the least crowds."""
        system = model.made()
        enough = []
        for crowd in all_crowds(model, most):
            fewest = model.fixed_fewest(wished, model.fixed_states(crowd))
            self.assertIs(suffices(system, wished, crowd), fewest is not None)
            self.check_way(system, wished, crowd, fewest)
            if fewest is not None:
                enough.append(crowd)
        told = least_crowds(system, wished)
        self.assertEqual(told, sorted(set(told)))
        self.assertIs(bool(told), can_come(system, wished))
        low = [c for c in enough if not any(c != d and all(x >= y for x, y in zip(c, d)) for d in enough)]
        self.assertEqual([c for c in told if max(c, default=0) <= most], low)
        for crowd in told:
            self.assertTrue(suffices(system, wished, crowd))
            self.assertFalse(any(suffices(system, wished, less) for less in lowered(crowd)))
        return told

    def check_way(self, system, wished, crowd, fewest):
        steps = way_of(system, wished, crowd)
        if fewest is None:
            self.assertIsNone(steps)
            return
        self.assertEqual(len(steps), fewest)
        self.assertTrue(system.is_run(system.first, steps))
        self.assertTrue(any(is_over(system.run(system.first, steps)[-1], y) for y in wished))
        self.assertTrue(all(x <= y for x, y in zip(needed(system, steps), crowd)))
        self.assertGreaterEqual(len(steps), len(way(system, wished)))

    def test_systems_at_random(self):
        told = {}
        for seed in range(100):
            chance = random.Random(seed)
            model = some_model(chance)
            for crowd in self.compare(model, some_wished(chance, model), 2):
                told[crowd] = True
        self.assertTrue({(), (0,), (1,), (2,), (0, 0), (1, 1)} <= set(told))

    def test_samples(self):
        for model in (JOBS, WAITING, PAIRS, ALONE, INSTEAD):
            chance = random.Random(3)
            for _ in range(12):
                self.compare(model, [some_standing(chance, model, 2)], 3)

    def test_several_least_crowds(self):
        several = 0
        for standing in INSTEAD.box(0):
            several += len(self.compare(INSTEAD, [standing], 3)) > 1
        self.assertGreater(several, 3)

    def test_a_client_who_helps_instead_of_another_one(self):
        wished = [(1, ((0, False), (0, False)), (0, 0, 0))]
        self.assertEqual(self.compare(INSTEAD, wished, 3), [(1, 1), (2, 0)])

    def test_the_crowd_that_is_quicker_may_be_the_greater_one(self):
        model = Model({"a": 2}, [("any", (("take", "a", 1),)), ("any", ())], {
            "k": [("any", (("else", 1),)), ("any", (("send", "a", 0),))], "l": [("any", (("send", "a", 0),))]})
        self.assertEqual(self.compare(model, [(1, ((0, False),), (0,))], 2), [(0, 1), (1, 0)])
        turned = Model(model.bounds, model.server, {"k": model.kinds["l"], "l": model.kinds["k"]})
        self.assertEqual(self.compare(turned, [(1, ((0, False),), (0,))], 2), [(0, 1), (1, 0)])

    def test_the_way_of_few_is_longer(self):
        model = Model({"a": 1}, [("any", (("take", "a", 1),)), ("any", (("take", "a", 2),)), ("any", ())],
                      {"k": [("any", (("send", "a", 1),)), ("any", (("else", 0),))]})
        wished = [(2, ((0, False),), (0,))]
        self.assertEqual(self.compare(model, wished, 3), [(1,)])
        system = model.made()
        self.assertEqual((len(way_of(system, wished, (1,))), len(way_of(system, wished, (2,)))), (5, 4))

    def test_what_is_needed_suffices(self):
        for seed in range(60):
            chance = random.Random(seed)
            model = chance.choice([some_model(chance), PAIRS, WAITING, INSTEAD])
            system, steps = model.made(), some_run(chance, model, 8)
            wished = [system.run(system.first, steps)[-1]]
            crowd = needed(system, steps)
            self.assertTrue(suffices(system, wished, crowd, most=10000))
            self.assertLessEqual(len(way_of(system, wished, crowd, most=10000)), len(steps))
            lows = least_crowds(system, wished, most=10000)
            self.assertTrue(any(all(x >= y for x, y in zip(crowd, low)) for low in lows))


class EdgesTest(unittest.TestCase):
    def test_the_example(self):
        system = jobs()
        self.assertEqual(least_crowds(system, [system.at(1, system.lanes.first, {})]), [(1,)])

    def test_no_wished_standings(self):
        for model, crowd in ((JOBS, (40,)), (PAIRS, (1, 2)), (ALONE, ())):
            system = model.made()
            self.assertEqual(least_crowds(system, [], most=1), [])
            self.assertIs(suffices(system, [], crowd, most=1), False)
            self.assertIsNone(way_of(system, [], crowd, most=1))

    def test_the_first_standing_needs_nobody(self):
        for model in (JOBS, PAIRS, ALONE, WAITING):
            system = model.made()
            nobody = (0,) * len(model.kinds)
            self.assertEqual(least_crowds(system, [system.first]), [nobody])
            self.assertIs(suffices(system, [system.first], nobody), True)
            self.assertEqual(way_of(system, [system.first], nobody), [])

    def test_without_kinds(self):
        system, wished = ALONE.made(), [(2, ((0, True),), ())]
        self.assertEqual(least_crowds(system, wished), [()])
        self.assertIs(suffices(system, wished, ()), True)
        self.assertEqual(way_of(system, wished, ()), [("", 0, 1), ("", 1, 1)])
        self.assertEqual(least_crowds(system, [(0, ((0, True),), ())]), [])
        self.assertIs(suffices(system, [(0, ((0, True),), ())], ()), False)

    def test_a_kind_of_one_place_and_one_that_never_comes(self):
        model = Model({"a": 2}, [("any", ())], {"k": [("any", (("send", "a", 0),))], "l": [("any", ()), ("any", ())]})
        system = model.made()
        self.assertEqual(least_crowds(system, [(0, ((2, False),), (0,))]), [(1, 0)])
        self.assertEqual(way_of(system, [(0, ((2, False),), (0,))], (1, 0)), [("k", 0, 0), ("k", 0, 0)])
        self.assertIs(suffices(system, [(0, ((2, False),), (0,))], (0, 40)), False)
        self.assertEqual(least_crowds(system, [(0, ((0, False),), (1,))]), [])
        self.assertIs(suffices(system, [(0, ((0, False),), (1,))], (40, 40)), False)

    def test_twice_and_above_one_another(self):
        system = PAIRS.made()
        low, high = (1, system.lanes.first, (0, 1, 0)), (1, system.lanes.first, (2, 1, 2))
        for wished in ([low, low], [high, low]):
            self.assertEqual(least_crowds(system, wished), least_crowds(system, [low]))
        self.assertNotEqual(least_crowds(system, [high]), least_crowds(system, [low]))

    def test_crowds_of_40_and_more(self):
        system = jobs()
        wished = [(0, system.lanes.first, (12,))]
        self.assertEqual(least_crowds(system, wished), [(12,)])
        for many, enough in ((0, False), (11, False), (12, True), (40, True), (10**12, True)):
            self.assertIs(suffices(system, wished, (many,)), enough)
        self.assertEqual(len(way_of(system, wished, (40,))), 24)


class TooManyTest(unittest.TestCase):
    def test_most_at_below_and_above_the_greatest_layer_with_place_0_counted(self):
        other = 0
        for seed in range(80):
            chance = random.Random(seed)
            model = some_model(chance)
            system, shifted = model.made(), model.shifted().made()
            wished = some_wished(chance, model)
            lifted = [(*x[:2], model.row_of((0,) * len(model.kinds), x[2])) for x in wished]
            most = greatest(shifted, lifted)
            other += most != greatest(system, wished)
            crowd = (2,) * len(model.kinds)
            check_most(self, most, least_crowds, system, wished)
            check_most(self, most, suffices, system, wished, crowd)
            check_most(self, most, way_of, system, wished, crowd)
        self.assertGreater(other, 10)

    def test_too_many_though_nobody_is_needed(self):
        system = jobs()
        wished = [(place, content, (0,)) for place in (0, 1) for content in JOBS.contents()]
        few = {"most": len(wished) - 1}
        check_error(self, TooMany, few, least_crowds, system, wished, **few)
        check_error(self, TooMany, few, suffices, system, wished, (0,), **few)
        check_error(self, TooMany, few, way_of, system, wished, (0,), **few)


class KeptTest(unittest.TestCase):
    def setUp(self):
        self.system = INSTEAD.made()
        self.wished = [(1, ((0, False), (0, False)), (0, 0, 1)), (1, ((0, False), (1, False)), (0, 0, 0))]

    def ask(self):
        steps = way_of(self.system, self.wished, (1, 2))
        return [steps, least_crowds(self.system, self.wished), needed(self.system, steps),
                suffices(self.system, self.wished, (1, 2)), suffices(self.system, self.wished, (1, 0))]

    def test_the_arguments_stay(self):
        kept = copy.deepcopy(self.wished)
        steps = self.ask()[0]
        same = list(steps)
        needed(self.system, steps)
        self.assertEqual((self.wished, steps), (kept, same))
        self.assertEqual(self.system, INSTEAD.made())

    def test_a_changed_result_changes_no_answer_and_asking_by_turns_tells_the_same(self):
        told = self.ask()
        kept = copy.deepcopy(told)
        for row in told[:2]:
            self.assertTrue(row)
            row.clear()
        least_crowds(PAIRS.made(), [(1, PAIRS.contents()[0], (0, 1, 0))])
        self.assertEqual(self.ask(), kept)
        self.system = INSTEAD.turned().made()
        self.assertEqual(self.ask(), kept)

    def test_renamed_in_the_same_order_all_is_the_same(self):
        for seed in range(30):
            chance = random.Random(seed)
            model = some_model(chance)
            wished, crowd = some_wished(chance, model), (2,) * len(model.kinds)
            one, other = model.made(), model.renamed(NEW).made()
            self.assertEqual(least_crowds(one, wished), least_crowds(other, wished))
            steps = way_of(one, wished, crowd)
            if steps is not None:
                steps = [(NEW[who], place, index) for who, place, index in steps]
                self.assertEqual(needed(other, steps), needed(one, way_of(one, wished, crowd)))
            self.assertEqual(way_of(other, wished, crowd), steps)


if __name__ == "__main__":
    unittest.main()
