"""[2], [3], [4] and [30]: programs."""

import copy
import unittest

from openlanes.errors import NoArm, NoPlace, TwoElse, Wrong
from openlanes.programs import Program
from tests.helpers import STRANGE, check_error, deep

PLACES = [
    ("first", (("take", "stop", 1), ("take", "job", 0), ("else", 0))),
    ("any", (("send", "b", 2), ("send", "b", 2))),
    ("any", ()),
]
SIZES = [-1, 3, 10**9, True, False]


class MadeTest(unittest.TestCase):
    def test_places_modes_and_arms(self):
        program = Program(PLACES)
        self.assertEqual(program.size, 3)
        self.assertEqual(program.places(), PLACES)
        self.assertEqual([program.mode(place) for place in range(3)], ["first", "any", "any"])
        self.assertEqual([program.arms(place) for place in range(3)], [list(arms) for _, arms in PLACES])
        self.assertEqual(program.used(), ["b", "job", "stop"])

    def test_lists_and_tuples_are_the_same(self):
        as_lists = [[mode, list(arms)] for mode, arms in PLACES]
        program = Program(as_lists)
        self.assertEqual(program, Program(tuple(PLACES)))
        self.assertEqual(repr(program.places()), repr(PLACES))
        self.assertIs(program.places()[0].__class__, tuple)
        self.assertIs(program.places()[0][1].__class__, tuple)

    def test_one_place_without_arms(self):
        program = Program([("any", [])])
        self.assertEqual((program.size, program.places(), program.arms(0), program.used()),
                         (1, [("any", ())], [], []))

    def test_else_arms_at_any_index_and_equal_arms(self):
        arm = ("send", "a", 0)
        for index in range(3):
            arms = [arm, arm]
            arms.insert(index, ("else", 0))
            program = Program([("first", arms)])
            self.assertEqual(program.arms(0), arms)
            self.assertEqual(program.used(), ["a"])

    def test_an_else_arm_alone_uses_no_lane(self):
        self.assertEqual(Program([("any", [("else", 0)])]).used(), [])

    def test_two_places_with_an_else_arm_each(self):
        self.assertEqual(Program([("any", [("else", 1)]), ("any", [("else", 0)])]).size, 2)


class WrongTest(unittest.TestCase):
    def wrong(self, places):
        check_error(self, Wrong, {"place": 0}, Program, places)

    def test_wrong_places(self):
        for thing in [*STRANGE, 1, "any", [], (), {0: ("any", [])}, {("any", ())}, deep(29)]:
            self.wrong(thing)

    def test_a_wrong_place(self):
        for thing in [*STRANGE, 1, "any", ["any"], ("any",), ("any", [], []), ([], "any"), {"any": []}, ("any", None)]:
            self.wrong([thing])
            self.wrong([("any", []), thing])

    def test_a_wrong_mode(self):
        for thing in [*STRANGE, 0, 1, "First", "last", "firstany", "fir", ("first",), ["any"], b"any"]:
            self.wrong([(thing, [])])

    def test_wrong_arms(self):
        for thing in [*STRANGE, 1, "send", {("else", 0)}, {("else", 0): 1}, {"a": 1}]:
            if not (isinstance(thing, tuple) and thing == ()):
                self.wrong([("any", thing)])

    def test_a_wrong_arm(self):
        for thing in [
            *STRANGE, ["send", "a", 0], ("send", "a"), ("send", "a", 0, 0), ("send", "a", True), ("send", "a", -1),
            ("send", "A", 0), ("send", "", 0), ("send", "abcdefghi", 0), ("else", "a", 0), ("else",), ("else", True),
            ("else", False), ["else", 0], ("else", -1), ("put", "a", 0), ("send", "a", "0"), ("send", ("a",), 0),
            "else",
        ]:
            self.wrong([("any", [thing])])
            self.wrong([("any", [("else", 0)]), ("first", (("send", "a", 0), thing))])

    def test_no_place_behind_an_arm(self):
        for arm in [("send", "a", 1), ("else", 1), ("close", "a", 10**30)]:
            check_error(self, NoPlace, {"place": arm[-1]}, Program, [("any", [arm])])
        self.assertEqual(Program([("any", [("send", "a", 0)])]).size, 1)

    def test_the_first_arm_without_a_place_is_told(self):
        places = [("any", [("send", "a", 1), ("else", 5)]), ("any", [("send", "a", 2), ("else", 3)])]
        check_error(self, NoPlace, {"place": 5}, Program, places)
        places = [("any", [("send", "a", 1)]), ("any", [("else", 9), ("send", "a", 2)])]
        check_error(self, NoPlace, {"place": 9}, Program, places)

    def test_two_else_arms(self):
        two = ("any", [("else", 0), ("send", "a", 0), ("else", 0)])
        check_error(self, TwoElse, {"place": 0}, Program, [two])
        check_error(self, TwoElse, {"place": 1}, Program, [("any", [("else", 0)]), two, two])
        check_error(self, TwoElse, {"place": 0}, Program, [("first", (("else", 0),) * 3)])

    def test_the_order_of_the_errors(self):
        two = ("any", [("else", 0), ("else", 0)])
        check_error(self, NoPlace, {"place": 2}, Program, [two, ("any", [("send", "a", 2)])])
        self.wrong([two, ("any", [("send", "a", 2)]), ("any", [("send", "a", True)])])
        self.wrong([("any", [("send", "a", 9)]), ("no", [])])


class AskedTest(unittest.TestCase):
    def setUp(self):
        self.program = Program(PLACES)

    def test_places_that_are_not_there(self):
        program = self.program
        for place in SIZES:
            check_error(self, NoPlace, {"place": place}, program.mode, place)
            check_error(self, NoPlace, {"place": place}, program.arms, place)
            check_error(self, NoPlace, {"place": place}, program.with_mode, place, "any")
            for index in (0, 9, -1):
                check_error(self, NoPlace, {"place": place}, program.swapped, place, index)
                check_error(self, NoPlace, {"place": place}, program.without, place, index)

    def test_with_mode(self):
        changed = self.program.with_mode(1, "first")
        self.assertEqual(changed.places(), [PLACES[0], ("first", PLACES[1][1]), PLACES[2]])
        self.assertEqual(self.program.with_mode(1, "any"), self.program)
        self.assertEqual(self.program.with_mode(2, "first").mode(2), "first")

    def test_swapped(self):
        a, b, c = PLACES[0][1]
        self.assertEqual(self.program.swapped(0, 0).arms(0), [b, a, c])
        self.assertEqual(self.program.swapped(0, 1).arms(0), [a, c, b])
        self.assertEqual(self.program.swapped(0, 1).places()[1:], PLACES[1:])
        self.assertEqual(self.program.swapped(0, 0).mode(0), "first")
        self.assertEqual(self.program.swapped(1, 0), self.program)

    def test_without(self):
        a, b, c = PLACES[0][1]
        self.assertEqual([self.program.without(0, index).arms(0) for index in range(3)], [[b, c], [a, c], [a, b]])
        self.assertEqual(self.program.without(0, 0).without(0, 0).without(0, 0).arms(0), [])
        self.assertEqual(self.program.without(0, 1).places()[1:], PLACES[1:])
        self.assertEqual(self.program.without(0, 1).mode(0), "first")

    def test_arms_that_are_not_there(self):
        for index in [-1, 3, 10**9, True, False]:
            check_error(self, NoArm, {"index": index}, self.program.swapped, 0, index)
            check_error(self, NoArm, {"index": index}, self.program.without, 0, index)
        check_error(self, NoArm, {"index": 3}, self.program.swapped, 0, 2)
        check_error(self, NoArm, {"index": 2}, self.program.swapped, 1, 1)
        check_error(self, NoArm, {"index": 0}, self.program.swapped, 2, 0)
        check_error(self, NoArm, {"index": 0}, self.program.without, 2, 0)

    def test_equal(self):
        program = self.program
        self.assertTrue(program == Program(copy.deepcopy(PLACES)))
        self.assertFalse(program != Program(copy.deepcopy(PLACES)))
        for other in [program.with_mode(0, "any"), program.swapped(0, 0), program.without(1, 1),
                      Program([*PLACES, ("any", [])]), Program([("any", [])])]:
            self.assertIs(program == other, False)
            self.assertIs(program != other, True)
        for thing in [*STRANGE, PLACES, tuple(PLACES), program.places()]:
            if thing.__class__.__name__ != "Same":
                self.assertIs(program == thing, False)
                self.assertIs(program != thing, True)

    def test_the_program_does_not_change(self):
        program = self.program
        for _ in range(2):
            program.with_mode(0, "any")
            program.swapped(0, 0)
            program.without(0, 0)
            program.places().clear()
            program.arms(0).clear()
            program.used().append("x")
            self.assertEqual(program.places(), PLACES)
            self.assertEqual(program.arms(0), list(PLACES[0][1]))
            self.assertEqual(program.used(), ["b", "job", "stop"])

    def test_what_is_passed_stays_and_is_not_kept(self):
        places = [["first", [("send", "a", 0)]], ["any", []]]
        program = Program(places)
        self.assertEqual(places, [["first", [("send", "a", 0)]], ["any", []]])
        places[0][1].append(("else", 0))
        places[1][0] = "first"
        places.pop()
        self.assertEqual(program.places(), [("first", (("send", "a", 0),)), ("any", ())])


if __name__ == "__main__":
    unittest.main()
