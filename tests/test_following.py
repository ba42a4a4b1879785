"""[3], [11] and [81]: which rows a server follows."""

import copy
import random
import unittest

from openlanes.errors import NoLane
from openlanes.following import following, follows, standings_behind
from openlanes.lanes import Lanes
from openlanes.programs import Program
from openlanes.rows import row_of
from tests.byhand import some_model
from tests.byrows import BOUNDS, Bare, some_row, some_server
from tests.helpers import NEW, check_error
from tests.samples import PAIRS, WAITING, jobs
from tests.test_crowds import some_run

LANES = Lanes({"ask": 1, "say": 1})
ECHO = Program([("any", [("take", "ask", 1)]), ("any", [("send", "say", 0)])])
END = Program([("any", [])])
NONE = (0, False)


class FollowingTest(unittest.TestCase):
    def compare(self, bare, server, row):
        """Compares all three with the search by hand; returns the indexes that were told."""
        program = Program(server)
        behind = bare.behind_row(server, row)
        self.assertEqual(standings_behind(bare.lanes, program, row), sorted(behind))
        self.assertIs(follows(bare.lanes, program, row), bool(behind))
        told = following(bare.lanes, program, row)
        if not behind:
            self.assertIsNone(told)
            return None
        self.assertIs(told.__class__, list)
        self.assertTrue(all(part.__class__ is list for part in told))
        self.assertIs(bare.takes(server, row, told), True)
        return told

    def test_servers_and_rows_at_random(self):
        told = []
        for seed in range(400):
            chance = random.Random(seed)
            bare = Bare(chance.choice(BOUNDS))
            server = some_server(chance, bare.bounds)
            told.append(self.compare(bare, server, some_row(chance, bare, server, chance.choice([0, 1, 2, 4, 9]))))
        self.assertGreater(told.count(None), 80)
        self.assertGreater(len([rows for rows in told if rows and any(rows)]), 80)
        self.assertGreater(len([rows for rows in told if rows and max(map(len, rows)) > 1]), 20)

    def test_all_rows_of_two_items(self):
        for seed in range(4):
            chance = random.Random(seed)
            bare = Bare({"a": 1})
            server = some_server(chance, bare.bounds)
            items = chance.sample(bare.all_items(), 25)
            for row in [[one, other] for one in items for other in items]:
                self.compare(bare, server, row)

    def test_the_row_of_a_run_is_followed(self):
        for seed in range(80):
            chance = random.Random(seed)
            model = chance.choice([some_model(chance), PAIRS, WAITING])
            system, steps = model.made(), some_run(chance, model, chance.choice([3, 12, 30]))
            row = row_of(system, steps)
            self.assertIs(follows(system.lanes, system.server, row), True)
            place, content, _ = system.run(system.first, steps)[-1]
            self.assertIn((place, content), standings_behind(system.lanes, system.server, row))

    def test_what_the_document_prints(self):
        self.assertIs(follows(LANES, ECHO, [((), ("send", "ask")), ((), ("take", "say"))]), True)
        self.assertIs(follows(LANES, ECHO, [((("take", "ask"),), ("take", "say"))]), False)
        self.assertEqual(standings_behind(LANES, ECHO, [((), ("send", "ask"))]), [
            (0, ((0, False), (1, False))), (0, ((1, False), (0, False))), (1, ((0, False), (0, False))),
        ])
        self.assertEqual(following(LANES, ECHO, [((), ("send", "ask")), ((), ("take", "say"))]), [[], [0, 0]])


class EdgesTest(unittest.TestCase):
    def test_the_empty_row(self):
        for server in (ECHO, END, Program([("first", [("else", 0)])])):
            self.assertIs(follows(LANES, server, []), True)
            self.assertEqual(following(LANES, server, []), [])
        self.assertEqual(standings_behind(LANES, END, []), [(0, LANES.first)])
        sender = Program([("any", [("send", "ask", 1)]), ("any", [("send", "say", 2)]), ("any", [])])
        self.assertEqual(standings_behind(LANES, sender, []), [
            (0, (NONE, NONE)), (1, ((1, False), NONE)), (2, ((1, False), (1, False))),
        ])

    def test_items_with_nothing_shut_and_with_all_that_can_be_shut(self):
        shut = tuple(LANES.shut(LANES.first))
        for program in (ECHO, END):
            self.assertIs(follows(LANES, program, [(shut, ("send", "ask"))]), True)
            self.assertIs(follows(LANES, program, [((), None), (shut, None), ((), None)]), True)
        every = tuple((word, lane) for word in ("close", "ended", "send", "take") for lane in ("ask", "say"))
        self.assertIs(follows(LANES, ECHO, [(every, None)]), False)

    def test_an_arm_that_is_shut_itself(self):
        self.assertIs(follows(LANES, ECHO, [((("send", "ask"),), ("send", "ask"))]), False)
        self.assertIsNone(following(LANES, ECHO, [((("take", "ask"),), ("take", "ask"))]))

    def test_no_arm_is_taken(self):
        lanes = Lanes({"a": 1})
        server = Program([("any", [("send", "a", 1)]), ("any", [])])
        row = [((("send", "a"),), None)]
        self.assertEqual(following(lanes, server, row), [[0]])
        self.assertEqual(standings_behind(lanes, server, row), [(1, ((1, False),))])
        self.assertEqual(standings_behind(lanes, server, [((), None)]), [(0, (NONE,)), (1, ((1, False),))])
        self.assertEqual(standings_behind(lanes, server, [((("take", "a"),), None), ((("send", "a"),), None)]),
                         [(1, ((1, False),))])

    def test_steps_behind_the_last_item(self):
        lanes = Lanes({"a": 1})
        server = Program([("any", [("take", "a", 1)]), ("any", [("close", "a", 2)]), ("any", [])])
        self.assertEqual(standings_behind(lanes, server, [((), ("send", "a"))]), [
            (0, ((1, False),)), (1, (NONE,)), (2, ((0, True),)),
        ])
        self.assertEqual(following(lanes, server, [((), ("send", "a")), ((), ("ended", "a"))]), [[], [0, 0]])

    def test_else_arms_and_modes(self):
        lanes = Lanes({"a": 1, "b": 1})
        busy = Program([("any", [("take", "a", 0), ("else", 1)]), ("any", [("send", "b", 1)])])
        row = [((), ("take", "b"))]
        self.assertEqual(following(lanes, busy, row), [[1, 0]])
        self.assertIs(follows(lanes, busy, [((), ("send", "a")), ((("send", "a"), ("take", "a")), None)]), False)
        for mode, told in (("any", [[0], [1, 2]]), ("first", None)):
            server = Program([(mode, [("send", "b", 1), ("send", "a", 1)]), ("any", [("take", "b", 0)])])
            self.assertIs(follows(lanes, server, [((), ("take", "a"))]), told is not None)

    def test_a_lane_that_nobody_closes(self):
        lanes = Lanes({"a": 1})
        self.assertIs(follows(lanes, END, [((), ("ended", "a"))]), False)
        self.assertIs(follows(lanes, END, [((), ("close", "a")), ((), ("ended", "a")), ((), ("ended", "a"))]), True)

    def test_equal_arms(self):
        lanes = Lanes({"a": 1})
        server = Program([("first", [("take", "a", 1), ("take", "a", 1)]), ("any", [])])
        self.assertEqual(following(lanes, server, [((), ("send", "a")), ((), ("send", "a"))]), [[], [0]])

    def test_a_long_row(self):
        row = [((), ("send", "ask")), ((), ("take", "say"))] * 150
        self.assertIs(follows(LANES, ECHO, row), True)
        self.assertEqual(len(following(LANES, ECHO, row)), 300)


class ErrorsTest(unittest.TestCase):
    def test_the_least_name_that_is_no_lane(self):
        server = Program([("any", [("send", "z", 1), ("send", "ask", 1)]), ("first", [("take", "b", 0), ("take", "x", 0)])])
        for function in (follows, following, standings_behind):
            for row in ([], [((), ("send", "ask"))], [((("send", "ask"),), ("send", "ask"))]):
                check_error(self, NoLane, {"lane": "b"}, function, LANES, server, row)
                check_error(self, NoLane, {"lane": "ask"}, function, Lanes({"say": 1}), ECHO, [])


class KeptTest(unittest.TestCase):
    def test_the_arguments_stay_and_what_is_returned_is_new(self):
        row = [((("ended", "ask"),), ("send", "ask")), ((), ("take", "say"))]
        kept = copy.deepcopy(row)
        for function in (following, standings_behind):
            told = function(LANES, ECHO, row)
            again = copy.deepcopy(told)
            for part in told:
                if part.__class__ is list:
                    part.append(7)
            told.clear()
            self.assertEqual(function(LANES, ECHO, row), again)
        self.assertEqual(row, kept)
        told = following(LANES, ECHO, [((), None)] * 3)
        self.assertEqual(len({id(part) for part in told}), 3)

    def test_by_turns_over_other_lanes(self):
        narrow, wide = Lanes({"a": 1}), Lanes({"a": 2})
        server = Program([("any", [("take", "a", 1)]), ("any", [])])
        row = [((), ("send", "a")), ((("send", "a"),), None)]
        two = [((), ("send", "a")), ((), ("send", "a")), ((("send", "a"),), None)]
        for _ in range(2):
            self.assertIs(follows(narrow, server, row), True)
            self.assertIs(follows(wide, server, row), False)
            self.assertIs(follows(wide, server, two), True)
            self.assertIs(follows(narrow, server, two), True)
            self.assertEqual(following(narrow, server, two), [[], [0], []])
            self.assertEqual(following(wide, server, two), [[], [], []])

    def test_equal_arguments_and_names_in_the_same_order(self):
        def new(deal):
            return deal and (deal[0], NEW[deal[1]])
        for seed in range(60):
            chance = random.Random(seed)
            bare = Bare(chance.choice(BOUNDS))
            server = some_server(chance, bare.bounds)
            row = some_row(chance, bare, server, 4)
            told = following(bare.lanes, Program(server), row)
            turned = Lanes({name: bare.bounds[name] for name in reversed(list(bare.bounds))})
            self.assertEqual(following(turned, Program(copy.deepcopy(server)), copy.deepcopy(row)), told)
            renamed = [(tuple(new(deal) for deal in shut), new(arm)) for shut, arm in row]
            places = [(mode, [arm if arm[0] == "else" else (arm[0], NEW[arm[1]], arm[2]) for arm in arms])
                      for mode, arms in server]
            lanes = Lanes({NEW[name]: bare.bounds[name] for name in bare.bounds})
            self.assertEqual(following(lanes, Program(places), renamed), told)
            self.assertEqual(standings_behind(lanes, Program(places), renamed),
                             standings_behind(bare.lanes, Program(server), row))

    def test_the_first_standing_of_a_system(self):
        system = jobs()
        self.assertEqual(standings_behind(system.lanes, system.server, []), [system.first[:2]])


if __name__ == "__main__":
    unittest.main()
