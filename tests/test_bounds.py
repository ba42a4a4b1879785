"""[3], [11] and [72]: bounds with which the server sticks nowhere."""

import copy
import random
import unittest
from itertools import product

from openlanes.bounds import safe_bounds
from openlanes.errors import NoLane, TooMany
from openlanes.lanes import Lanes
from openlanes.programs import Program
from openlanes.stuck import freeing, stuck
from openlanes.systems import System
from tests.byhand import Model, some_lively_model, some_model
from tests.helpers import NEW, check_error, check_most, greatest
from tests.samples import JOBS, PAIRS
from tests.test_stuck import all_spots, bare, free_spots

NOTES = [("any", [("send", "note", 1)]), ("any", [("send", "note", 2)]), ("any", [("take", "note", 3)]),
         ("any", [("take", "note", 0)])]


def random_models(many):
    return [make(random.Random(seed)) for seed in range(many) for make in (some_model, some_lively_model)]


def some_chain(chance):
    """A Model whose server sends and takes in turn, and sticks with some bounds."""
    names = chance.choice(["a", "a", "ab"])
    server = []
    for place in range(5):
        arm = (chance.choice(["send", "send", "take"]), chance.choice(names), (place + 1) % 5)
        further = [("else", chance.randrange(5))] if chance.random() < 0.2 else []
        server.append((chance.choice(["first", "any"]), (arm, *further)))
    kinds = {"k": [("any", ((chance.choice(["send", "take"]), chance.choice(names), 0),))]}
    return Model({name: 1 for name in names}, server, kinds if chance.random() < 0.4 else {})


def programs(kinds):
    return {kind: Program(kinds[kind]) for kind in kinds}


def ask(model, greatest_bound, names=None, **more):
    names = list(model.bounds) if names is None else names
    return safe_bounds(names, Program(model.server), programs(model.kinds), greatest_bound, **more)


def over_bounds(model, greatest_bound):
    """The list of tuples (bounds, Model) over all bounds."""
    rows = product(range(1, greatest_bound + 1), repeat=len(model.names))
    return [(row, Model(dict(zip(model.names, row)), model.server, model.kinds)) for row in rows]


def stuck_most(model):
    """The least most with which stuck raises nothing."""
    system = model.made()
    looked_at = [bare(model, spot) for spot in all_spots(model)
                 if model.server[spot[0]][1] and freeing(system, *spot) is None]
    return max([greatest(system, free_spots(model), held=True)] + [greatest(system, [x]) for x in looked_at])


class AgainstStuckTest(unittest.TestCase):
    def test_systems_at_random(self):
        told = []
        for model in random_models(20) + [some_chain(random.Random(seed)) for seed in range(90)]:
            limit = 3 if len(model.names) == 1 else 2
            safe = [row for row, other in over_bounds(model, limit) if not stuck(other.made())]
            found = ask(model, limit)
            self.assertIs(found.__class__, list)
            self.assertEqual(found, safe)
            told.append((len(safe), len(over_bounds(model, limit))))
        self.assertGreater(len([row for row in told if 0 < row[0] < row[1]]), 2)
        self.assertGreater(len([row for row in told if row[0] == 0]), 5)
        self.assertGreater(len([row for row in told if row[0] == row[1]]), 5)

    def test_samples(self):
        for model in (JOBS, PAIRS):
            self.assertEqual(ask(model, 2), [row for row, other in over_bounds(model, 2) if not stuck(other.made())])


class EdgesTest(unittest.TestCase):
    def test_the_example(self):
        self.assertEqual(safe_bounds(["note"], Program(NOTES), {}, 3), [(2,), (3,)])

    def test_the_greatest_bound(self):
        for limit, told in ((1, []), (2, [(2,)]), (3, [(2,), (3,)])):
            self.assertEqual(safe_bounds(["note"], Program(NOTES), {}, limit), told)

    def test_names_in_any_order(self):
        server = Program([("any", [("send", "b", 1)]), ("any", [("send", "b", 2)]), ("any", [("take", "b", 3)]),
                          ("any", [("take", "b", 4)]), ("any", [("send", "a", 0), ("take", "a", 0)])])
        for names in (["a", "b"], ["b", "a"]):
            self.assertEqual(safe_bounds(names, server, {}, 2), [(1, 2), (2, 2)])
        for names in (["b", "c", "a"], ["a", "b", "c"], ["c", "b", "a"]):
            self.assertEqual(safe_bounds(names, server, {}, 1), [])

    def test_three_lanes_of_bounds_that_differ(self):
        server = Program([("any", [("send", "b", 1)]), ("any", [("send", "b", 0), ("else", 0)])])
        self.assertEqual(safe_bounds(["c", "a", "b"], server, {}, 1), [])
        self.assertEqual(safe_bounds(["c", "a", "b"], Program([("any", [])]), {}, 1), [(1, 1, 1)])

    def test_a_greater_bound_can_make_it_stick(self):
        server = Program([("any", [("send", "a", 1)]), ("first", [("send", "a", 2), ("take", "a", 0)]),
                          ("any", [("ended", "a", 2)])])
        self.assertEqual(safe_bounds(["a"], server, {}, 3), [(1,)])

    def test_clients_who_free_it(self):
        kinds = {"k": Program([("any", [("take", "note", 0)])])}
        self.assertEqual(safe_bounds(["note"], Program(NOTES), kinds, 3), [])
        kinds = {"k": Program([("any", [("take", "note", 0), ("send", "note", 0)])])}
        self.assertEqual(safe_bounds(["note"], Program(NOTES), kinds, 3), [(1,), (2,), (3,)])

    def test_names_that_are_no_lanes(self):
        server, kinds = Program(NOTES), {"k": Program([("any", [("send", "b", 0)]), ("any", [("take", "a", 0)])])}
        for most in (1, 2000):
            check_error(self, NoLane, {"lane": "note"}, safe_bounds, ["a"], server, {}, 3, most=most)
            check_error(self, NoLane, {"lane": "a"}, safe_bounds, ["note"], server, kinds, 3, most=most)
            check_error(self, NoLane, {"lane": "b"}, safe_bounds, ["note", "a"], server, kinds, 1, most=most)
            check_error(self, NoLane, {"lane": "a"}, safe_bounds, ["x"], server, kinds, 2, most=most)

    def test_lanes_that_nobody_uses(self):
        self.assertEqual(safe_bounds(["x", "note"], Program(NOTES), {}, 2), [(2, 1), (2, 2)])


class TooManyTest(unittest.TestCase):
    def test_most_at_below_and_above_the_greatest_layer_of_all_bounds(self):
        for model in random_models(12) + [Model({"note": 1}, NOTES, {}), JOBS]:
            limit = 3 if len(model.names) == 1 else 2
            most = max(stuck_most(other) for _, other in over_bounds(model, limit))
            names = list(model.bounds)
            check_most(self, most, safe_bounds, names, Program(model.server), programs(model.kinds), limit)

    def test_too_many(self):
        check_error(self, TooMany, {"most": 1}, safe_bounds, ["note"], Program(NOTES), {}, 3, most=1)


class KeptTest(unittest.TestCase):
    def test_the_arguments_stay_and_asking_twice_tells_the_same(self):
        names, server, kinds = ["stop", "job"], Program(JOBS.server), programs(JOBS.kinds)
        kept = list(names), Program(JOBS.server), dict(kinds)
        told = safe_bounds(names, server, kinds, 2)
        again = copy.deepcopy(told)
        self.assertTrue(told)
        told.clear()
        self.assertEqual(safe_bounds(["note"], Program(NOTES), {}, 3), [(2,), (3,)])
        self.assertEqual(safe_bounds(names, server, kinds, 2), again)
        self.assertEqual((names, server, kinds), kept)

    def test_the_same_programs_over_other_lanes(self):
        server = Program(NOTES)
        for bound, told in ((1, True), (2, False), (1, True), (3, False)):
            self.assertIs(bool(stuck(System(Lanes({"note": bound}), server, {}))), told)

    def test_equal_arguments_and_names_in_the_same_order(self):
        for model in random_models(12):
            told = ask(model, 2)
            self.assertEqual(ask(model.turned(), 2), told)
            self.assertEqual(ask(model.renamed(NEW), 2), told)


if __name__ == "__main__":
    unittest.main()
