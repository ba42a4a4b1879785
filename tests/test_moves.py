"""[2] and [31]: what a program may do at a place and a content."""

import copy
import random
import unittest

from openlanes.errors import NoArm, NoLane, NoPlace, Refused
from openlanes.lanes import Lanes
from openlanes.moves import choices, moved
from openlanes.programs import Program
from tests.byhand import Model, some_model
from tests.helpers import check_error


class MovesTest(unittest.TestCase):
    def compare(self, model):
        """Compares all places and contents of the server of the model with what is done by hand."""
        lanes, program = Lanes(model.bounds), Program(model.server)
        for place in range(program.size):
            for content in model.contents():
                moves = {index: (to, behind) for index, to, behind in model.moves(model.server, place, content)}
                found = choices(lanes, program, place, content)
                self.assertEqual(found, sorted(moves))
                self.assertEqual(found, choices(lanes, program, place, content))
                arms = program.arms(place)
                for index in range(len(arms)):
                    if index in moves:
                        self.assertEqual(repr(moved(lanes, program, place, content, index)), repr(moves[index]))
                    else:
                        check_error(self, Refused, {"what": index}, moved, lanes, program, place, content, index)
                for index in (-1, len(arms), 10**9, True, False):
                    check_error(self, NoArm, {"index": index}, moved, lanes, program, place, content, index)

    def test_programs_at_random(self):
        for seed in range(60):
            self.compare(some_model(random.Random(seed)))

    def test_both_modes_with_and_without_an_else_arm_at_each_index(self):
        arms = [("take", "a", 0), ("send", "b", 1), ("ended", "a", 1), ("close", "b", 0)]
        for mode in ("first", "any"):
            for index in range(6):
                row = list(arms)
                if index < 5:
                    row.insert(index, ("else", 1))
                self.compare(Model({"a": 1, "b": 2}, [(mode, row), (mode, []), ("any", [("else", 0)])], {}))

    def test_any_takes_each_open_arm_and_first_the_least(self):
        lanes = Lanes({"a": 2})
        arms = [("ended", "a", 0), ("else", 0), ("take", "a", 0), ("send", "a", 0), ("take", "a", 0)]
        self.assertEqual(choices(lanes, Program([("any", arms)]), 0, ((1, False),)), [2, 3, 4])
        self.assertEqual(choices(lanes, Program([("first", arms)]), 0, ((1, False),)), [2])
        self.assertEqual(choices(lanes, Program([("first", arms)]), 0, ((0, False),)), [3])
        self.assertEqual(choices(lanes, Program([("first", arms)]), 0, ((0, True),)), [0])

    def test_else_only_if_nothing_else_is_open(self):
        lanes = Lanes({"a": 1})
        for mode in ("first", "any"):
            program = Program([(mode, [("else", 0), ("take", "a", 0)])])
            self.assertEqual(choices(lanes, program, 0, ((0, False),)), [0])
            self.assertEqual(choices(lanes, program, 0, ((1, False),)), [1])
            check_error(self, Refused, {"what": 0}, moved, lanes, program, 0, ((1, False),), 0)
            self.assertEqual(moved(lanes, program, 0, ((0, True),), 0), (0, ((0, True),)))

    def test_a_place_without_arms(self):
        self.assertEqual(choices(Lanes({"a": 1}), Program([("any", [])]), 0, ((1, True),)), [])

    def test_the_order_of_the_errors(self):
        lanes = Lanes({"b": 1})
        program = Program([("any", [("send", "c", 0), ("send", "a", 0), ("send", "b", 0)])])
        check_error(self, NoLane, {"lane": "a"}, choices, lanes, program, 7, lanes.first)
        check_error(self, NoLane, {"lane": "a"}, moved, lanes, program, 7, lanes.first, 9)
        program = program.without(0, 1)
        check_error(self, NoLane, {"lane": "c"}, choices, lanes, program, 0, lanes.first)
        check_error(self, NoLane, {"lane": "c"}, moved, lanes, program, 0, lanes.first, 1)
        program = program.without(0, 0)
        for place in (-1, 1, 10**9, True, False):
            check_error(self, NoPlace, {"place": place}, choices, lanes, program, place, lanes.first)
            check_error(self, NoPlace, {"place": place}, moved, lanes, program, place, lanes.first, 9)
        check_error(self, NoArm, {"index": 1}, moved, lanes, program, 0, ((1, False),), 1)
        check_error(self, Refused, {"what": 0}, moved, lanes, program, 0, ((1, False),), 0)
        self.assertEqual(moved(lanes, program, 0, lanes.first, 0), (0, ((1, False),)))

    def test_a_lane_in_another_place_is_missed_too(self):
        program = Program([("any", []), ("any", [("take", "x", 0)])])
        check_error(self, NoLane, {"lane": "x"}, choices, Lanes({"a": 1}), program, 0, ((0, False),))

    def test_what_the_document_prints(self):
        lanes = Lanes({"job": 1, "stop": 1})
        server = Program([("first", [("take", "stop", 1), ("take", "job", 0), ("else", 0)]), ("any", [])])
        self.assertEqual(choices(lanes, server, 0, ((1, False), (0, False))), [1])
        self.assertEqual(choices(lanes, server, 0, lanes.first), [2])

    def test_nothing_is_changed_and_what_is_returned_is_new(self):
        lanes = Lanes({"a": 1})
        program = Program([("any", [("send", "a", 0), ("close", "a", 0)])])
        kept = copy.deepcopy(program.places())
        found = choices(lanes, program, 0, lanes.first)
        found.append(5)
        self.assertEqual(choices(lanes, program, 0, lanes.first), [0, 1])
        self.assertEqual(program.places(), kept)
        self.assertEqual(lanes, Lanes({"a": 1}))


if __name__ == "__main__":
    unittest.main()
