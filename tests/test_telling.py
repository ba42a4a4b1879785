"""[3], [10], [11] and [91]: one client who tells two servers apart."""

import copy
import random
import unittest

from openlanes.comings import comings
from openlanes.errors import NoLane, TooMany
from openlanes.lanes import Lanes
from openlanes.programs import Program
from openlanes.rows import client_of
from openlanes.systems import System
from openlanes.tables import alike, parting
from openlanes.telling import teller
from tests.byrows import BOUNDS, Bare, some_servers
from tests.helpers import NEW, check_error

LANES = Lanes({"ask": 1, "say": 1})
ECHO = Program([("any", [("take", "ask", 1)]), ("any", [("send", "say", 0)])])
LATE = Program([("any", [("take", "ask", 1)]), ("any", [("send", "say", 2)]), ("any", [])])
ONE = Lanes({"a": 1, "b": 1})
END = Program([("any", [])])
SENDS = [Program([("any", [("send", name, 1)]), ("any", [])]) for name in "ab"]


def comes(lanes, server, client, place, most=10000):
    """Whether the client, alone with the server, can come to the place."""
    system = System(lanes, server, {"k": client})
    return any(part[0][place] == 1 for part in comings(system, (1,), most=most))


class TellerTest(unittest.TestCase):
    def check(self, lanes, one, other, most=10000):
        """Checks what is told of two servers; returns which, or None."""
        told = teller(lanes, one, other, most=most)
        self.assertIs(told is None, alike(lanes, one, other, most=most))
        if told is None:
            return None
        self.assertIs(told.__class__, tuple)
        client, place, which = told
        rows = [parting(lanes, one, other, most=most), None]
        if rows[0] is None:
            rows[1] = parting(lanes, other, one, most=most)
        self.assertIs(rows[which].__class__, list)
        self.assertIs(which, 0 if rows[0] is not None else 1)
        self.assertEqual((client, place), (client_of(rows[which]), len(rows[which])))
        servers = [one, other]
        self.assertIs(comes(lanes, servers[which], client, place), True)
        self.assertIs(comes(lanes, servers[1 - which], client, place), False)
        return which

    def test_servers_at_random(self):
        told = []
        for seed in range(250):
            chance = random.Random(seed)
            bare = Bare(chance.choice(BOUNDS))
            told.append(self.check(bare.lanes, *[Program(server) for server in some_servers(chance, bare.bounds)]))
        self.assertGreater(min(told.count(None), told.count(0), told.count(1)), 10)

    def test_what_the_document_prints(self):
        self.assertEqual(teller(LANES, LATE, ECHO)[1:], (3, 1))
        self.assertEqual(teller(LANES, ECHO, LATE)[1:], (3, 0))
        self.assertEqual((self.check(LANES, LATE, ECHO), self.check(LANES, ECHO, LATE)), (1, 0))

    def test_alike(self):
        self.assertIsNone(teller(LANES, ECHO, ECHO))
        self.assertIsNone(teller(LANES, ECHO, Program([("first", arms) for _, arms in ECHO.places()])))
        self.assertIsNone(teller(ONE, END, Program([("first", [("else", 0)])])))

    def test_parted_in_one_direction_only(self):
        self.assertEqual(self.check(ONE, SENDS[0], END), 0)
        self.assertEqual(self.check(ONE, END, SENDS[0]), 1)

    def test_parted_in_both_directions(self):
        for one, other in (SENDS, SENDS[::-1]):
            self.assertIsNotNone(parting(ONE, one, other))
            self.assertIsNotNone(parting(ONE, other, one))
            self.assertEqual(self.check(ONE, one, other), 0)

    def test_the_numbers_are_no_truths(self):
        for one, other in ((LATE, ECHO), (ECHO, LATE)):
            _, place, which = teller(LANES, one, other)
            self.assertEqual((place.__class__, which.__class__), (int, int))


class ErrorsTest(unittest.TestCase):
    def test_names_that_are_no_lanes(self):
        bad = Program([("any", [("send", "z", 0), ("take", "m", 0)])])
        for most in (1, 300):
            check_error(self, NoLane, {"lane": "m"}, teller, ONE, bad, END, most=most)
            check_error(self, NoLane, {"lane": "m"}, teller, ONE, END, bad, most=most)
            check_error(self, NoLane, {"lane": "ask"}, teller, ONE, ECHO, bad, most=most)
            check_error(self, NoLane, {"lane": "m"}, teller, ONE, bad, ECHO, most=most)

    def test_what_alike_raises(self):
        told = set()
        for seed in range(60):
            chance = random.Random(seed)
            bare = Bare(chance.choice(BOUNDS))
            one, other = [Program(server) for server in some_servers(chance, bare.bounds)]
            for most in (1, 2, 5, 10, 20, 40):
                try:
                    found = alike(bare.lanes, one, other, most=most)
                except TooMany:
                    check_error(self, TooMany, {"most": most}, teller, bare.lanes, one, other, most=most)
                    told.add(None)
                else:
                    self.assertIs(teller(bare.lanes, one, other, most=most) is None, found)
                    told.add(found)
        self.assertEqual(told, {None, True, False})

    def test_most_is_300_if_it_is_not_passed(self):
        # A server that sends, takes and closes as it likes, over three lanes: 64 contents, each behind a row.
        lanes = Lanes({"a": 1, "b": 1, "c": 1})
        arms = [(word, name, to) for name in "abc" for word, to in (("send", 1), ("take", 0))]
        one = Program([("any", arms), ("any", [("take", "a", 2)]), ("any", [("take", "b", 0), ("send", "c", 1)])])
        check_error(self, TooMany, {"most": 300}, teller, lanes, one, one)
        check_error(self, TooMany, {"most": 300}, alike, lanes, one, one)
        self.assertIsNone(teller(lanes, one, one, most=10000))


class KeptTest(unittest.TestCase):
    def test_asking_twice_and_by_turns(self):
        told = [teller(LANES, *servers) for servers in ((LATE, ECHO), (ECHO, LATE), (LATE, ECHO), (ECHO, LATE))]
        self.assertEqual(told[:2], told[2:])
        places = ECHO.places()
        self.assertEqual(teller(Lanes({"say": 1, "ask": 1}), Program(LATE.places()), Program(places)), told[0])

    def test_equal_arguments_and_names_in_the_same_order(self):
        def renamed(places):
            return Program([(mode, [arm if arm[0] == "else" else (arm[0], NEW[arm[1]], arm[2]) for arm in arms])
                            for mode, arms in places])
        for seed in range(60):
            chance = random.Random(seed)
            bare = Bare(chance.choice(BOUNDS))
            one, other = some_servers(chance, bare.bounds)
            told = teller(bare.lanes, Program(one), Program(other), most=10000)
            self.assertEqual(teller(bare.lanes, Program(copy.deepcopy(one)), Program(list(other)), most=10000), told)
            lanes = Lanes({NEW[name]: bare.bounds[name] for name in bare.bounds})
            new = teller(lanes, renamed(one), renamed(other), most=10000)
            self.assertEqual(new, told and (renamed(told[0].places()), told[1], told[2]))


if __name__ == "__main__":
    unittest.main()
