"""[3], [11], [30] and [92]: changes of a server that no crowd sees."""

import random
import unittest

from openlanes.comings import comings
from openlanes.errors import NoArm, NoLane, NoPlace, TooMany
from openlanes.lanes import Lanes
from openlanes.programs import Program
from openlanes.tables import alike
from openlanes.unseen import arm_matters, lean, mode_matters, order_matters
from tests.byhand import Model, some_places
from tests.byrows import BOUNDS, Bare, changed, some_chain, some_server
from tests.helpers import NEW, check_error
from tests.test_comings import some_crowd

ONE = Lanes({"a": 1, "b": 1})
END = Program([("any", [])])
BOTH = Program([("first", [("take", "a", 0), ("send", "b", 1)]), ("any", [])])


def some_program(chance, bounds):
    server = some_chain(chance, bounds) if chance.random() < 0.4 else some_server(chance, bounds)
    for _ in range(chance.choice([0, 1, 2])):
        server = changed(chance, server)
    return Program(server)


def changes(server):
    """The list of tuples (function, arguments, changed server) for all changes that can be asked about."""
    found = []
    for place, (mode, arms) in enumerate(server.places()):
        found.append((mode_matters, (place,), server.with_mode(place, "first" if mode == "any" else "any")))
        for index in range(len(arms)):
            found.append((arm_matters, (place, index), server.without(place, index)))
            if index + 1 < len(arms):
                found.append((order_matters, (place, index), server.swapped(place, index)))
    return found


def lean_by_hand(lanes, server, most):
    """The told going over places and indexes, with alike alone."""
    place, index = 0, 0
    while place < server.size:
        if index == len(server.arms(place)):
            place, index = place + 1, 0
        elif alike(lanes, server, server.without(place, index), most=most):
            server = server.without(place, index)
        else:
            index += 1
    return server


class MattersTest(unittest.TestCase):
    def test_servers_at_random(self):
        told = {function: [0, 0] for function in (mode_matters, order_matters, arm_matters)}
        for seed in range(120):
            chance = random.Random(seed)
            bare = Bare(chance.choice(BOUNDS))
            server = some_program(chance, bare.bounds)
            for function, values, other in changes(server):
                matters = function(bare.lanes, server, *values, most=10000)
                self.assertIs(matters, not alike(bare.lanes, server, other, most=10000))
                told[function][matters] += 1
        for counts in told.values():
            self.assertGreater(min(counts), 10)

    def test_modes(self):
        # Whoever takes at once may still wait: only that a lesser arm bars a greater one is seen.
        self.assertIs(mode_matters(ONE, END, 0), False)
        self.assertIs(mode_matters(ONE, BOTH, 1), False)
        self.assertIs(mode_matters(ONE, BOTH, 0), True)
        self.assertIs(mode_matters(ONE, BOTH.with_mode(0, "any"), 0), True)
        self.assertIs(mode_matters(ONE, BOTH.without(0, 0), 0), False)

    def test_orders(self):
        self.assertIs(order_matters(ONE, BOTH, 0, 0), True)
        self.assertIs(order_matters(ONE, BOTH.with_mode(0, "any"), 0, 0), False)
        twice = Program([("first", [("take", "a", 0), ("take", "a", 0), ("else", 0)])])
        self.assertIs(order_matters(ONE, twice, 0, 0), False)
        self.assertIs(order_matters(ONE, twice, 0, 1), False)

    def test_arms(self):
        self.assertIs(arm_matters(ONE, BOTH, 0, 0), True)
        self.assertIs(arm_matters(ONE, BOTH, 0, 1), True)
        twice = Program([("first", [("take", "a", 1), ("take", "a", 1)]), ("any", [("send", "b", 0)])])
        for index in (0, 1):
            self.assertIs(arm_matters(ONE, twice, 0, index), False)
        behind = Program([("first", [("take", "a", 0), ("take", "a", 1)]), ("any", [("send", "b", 0)])])
        self.assertIs(arm_matters(ONE, behind, 0, 1), False)
        self.assertIs(arm_matters(ONE, behind.with_mode(0, "any"), 0, 1), True)

    def test_an_else_arm_that_is_never_open(self):
        # One of send, take, ended and close is open in each state of a lane that nobody shuts; so is one of these.
        arms = [("send", "a", 0), ("take", "a", 0), ("ended", "a", 0)]
        server = Program([("any", [*arms, ("else", 1)]), ("any", [("send", "b", 1)])])
        self.assertIs(arm_matters(ONE, server, 0, 3), False)
        self.assertIs(arm_matters(ONE, server.without(0, 2), 0, 2), True)

    def test_arms_of_lanes_that_nobody_closes(self):
        # Clients may close them: that the arm is open then is seen.
        server = Program([("any", [("ended", "a", 1)]), ("any", [("send", "b", 1)])])
        self.assertIs(arm_matters(ONE, server, 0, 0), True)
        self.assertIs(arm_matters(ONE, Program([("any", [("ended", "a", 0)])]), 0, 0), False)


class LeanTest(unittest.TestCase):
    def test_servers_at_random(self):
        told = []
        for seed in range(100):
            chance = random.Random(seed)
            bare = Bare(chance.choice(BOUNDS))
            server = some_program(chance, bare.bounds)
            found = lean(bare.lanes, server, most=10000)
            self.assertIs(found.__class__, Program)
            self.assertEqual(found, lean_by_hand(bare.lanes, server, 10000))
            self.assertIs(alike(bare.lanes, server, found, most=10000), True)
            self.assertEqual(found.size, server.size)
            told.append(found == server)
        self.assertGreater(min(told.count(True), told.count(False)), 10)

    def test_what_comes_stays(self):
        changed_ones = 0
        for seed in range(60):
            chance = random.Random(seed)
            bare = Bare(chance.choice(BOUNDS))
            server = some_program(chance, bare.bounds)
            thin = lean(bare.lanes, server, most=10000)
            kinds = {kind: some_places(chance, bare.names, chance.randint(2, 3), 3) for kind in chance.choice(["k", "kl"])}
            models = [Model(bare.bounds, program.places(), kinds) for program in (server, thin)]
            crowd = some_crowd(chance, models[0])
            self.assertEqual(*[comings(model.made(), crowd, most=10000) for model in models])
            changed_ones += server != thin
        self.assertGreater(changed_ones, 20)

    def test_each_arm_is_asked_about_in_the_program_as_it_is_by_then(self):
        # Of two equal arms each one alone does not matter: one is left out, and the other one stays.
        twice = Program([("first", [("take", "a", 1), ("take", "a", 1)]), ("any", [("send", "b", 0)])])
        self.assertEqual(lean(ONE, twice), Program([("first", [("take", "a", 1)]), ("any", [("send", "b", 0)])]))
        self.assertEqual(lean(ONE, BOTH), BOTH)
        self.assertEqual(lean(ONE, END), END)
        busy = Program([("any", [("else", 1)]), ("first", [("else", 0), ("ended", "b", 1)])])
        self.assertEqual(lean(ONE, busy), Program([("any", []), ("first", [])]))

    def test_places_never_come_to(self):
        server = Program([("any", [("take", "a", 0)]), ("any", [("send", "b", 0), ("close", "b", 1)])])
        self.assertEqual(lean(ONE, server), Program([("any", [("take", "a", 0)]), ("any", [])]))


class ErrorsTest(unittest.TestCase):
    def test_places_and_indexes(self):
        bad = Program([("any", [("send", "z", 0), ("take", "m", 0)]), ("first", [("take", "a", 0)])])
        for server in (BOTH, bad):
            for place in (-1, 2, 10**20):
                check_error(self, NoPlace, {"place": place}, mode_matters, ONE, server, place, most=1)
                for index in (0, 9):
                    check_error(self, NoPlace, {"place": place}, order_matters, ONE, server, place, index, most=1)
                    check_error(self, NoPlace, {"place": place}, arm_matters, ONE, server, place, index, most=1)
            for index in (-1, 2, 10**20):
                check_error(self, NoArm, {"index": index}, order_matters, ONE, server, 0, index, most=1)
                check_error(self, NoArm, {"index": index}, arm_matters, ONE, server, 0, index, most=1)
            check_error(self, NoArm, {"index": 2}, order_matters, ONE, server, 0, 1, most=1)

    def test_names_that_are_no_lanes(self):
        bad = Program([("any", [("send", "z", 0), ("take", "m", 0)]), ("first", [("take", "a", 0)])])
        for most in (1, 300):
            check_error(self, NoLane, {"lane": "m"}, mode_matters, ONE, bad, 1, most=most)
            check_error(self, NoLane, {"lane": "m"}, order_matters, ONE, bad, 0, 0, most=most)
            # The server is looked at, not only what the change leaves of it.
            check_error(self, NoLane, {"lane": "m"}, arm_matters, ONE, bad, 0, 1, most=most)
            check_error(self, NoLane, {"lane": "m"}, lean, ONE, bad, most=most)
        self.assertEqual(lean(ONE, END, most=1), END)

    def test_what_alike_raises(self):
        told = set()
        for seed in range(25):
            chance = random.Random(seed)
            bare = Bare(chance.choice(BOUNDS))
            server = some_program(chance, bare.bounds)
            for most in (1, 5, 15, 40):
                for function, values, other in changes(server):
                    try:
                        found = alike(bare.lanes, server, other, most=most)
                    except TooMany:
                        check_error(self, TooMany, {"most": most}, function, bare.lanes, server, *values, most=most)
                        told.add(None)
                    else:
                        self.assertIs(function(bare.lanes, server, *values, most=most), not found)
                        told.add(found)
                try:
                    thin = lean_by_hand(bare.lanes, server, most)
                except TooMany:
                    check_error(self, TooMany, {"most": most}, lean, bare.lanes, server, most=most)
                else:
                    self.assertEqual(lean(bare.lanes, server, most=most), thin)
        self.assertEqual(told, {None, True, False})

    def test_most_is_300_if_it_is_not_passed(self):
        lanes = Lanes({"a": 1, "b": 1, "c": 1})
        arms = [(word, name, to) for name in "abc" for word, to in (("send", 1), ("take", 0))]
        server = Program([("any", arms), ("any", [("take", "a", 2)]), ("any", [("take", "b", 0), ("send", "c", 1)])])
        check_error(self, TooMany, {"most": 300}, mode_matters, lanes, server, 1)
        check_error(self, TooMany, {"most": 300}, order_matters, lanes, server, 0, 0)
        check_error(self, TooMany, {"most": 300}, lean, lanes, server)
        twice = Program([(mode, [*arms, arms[-1]]) for mode, arms in server.places()])
        check_error(self, TooMany, {"most": 300}, arm_matters, lanes, twice, 1, 1)


class KeptTest(unittest.TestCase):
    def test_the_server_stays_and_names_in_the_same_order(self):
        def renamed(program):
            return Program([(mode, [arm if arm[0] == "else" else (arm[0], NEW[arm[1]], arm[2]) for arm in arms])
                            for mode, arms in program.places()])
        for seed in range(25):
            chance = random.Random(seed)
            bare = Bare(chance.choice(BOUNDS))
            server = some_program(chance, bare.bounds)
            places = server.places()
            thin = lean(bare.lanes, server, most=10000)
            told = [function(bare.lanes, server, *values, most=10000) for function, values, _ in changes(server)]
            self.assertEqual(server.places(), places)
            self.assertEqual(lean(bare.lanes, server, most=10000), thin)
            lanes = Lanes({NEW[name]: bare.bounds[name] for name in bare.bounds})
            self.assertEqual(lean(lanes, renamed(server), most=10000), renamed(thin))
            again = [function(lanes, renamed(server), *values, most=10000) for function, values, _ in changes(server)]
            self.assertEqual(again, told)


if __name__ == "__main__":
    unittest.main()
