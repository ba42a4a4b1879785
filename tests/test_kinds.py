"""[2] and [21]: what is an integer, a name, a word, an arm."""

import unittest

from openlanes.kinds import is_arm, is_integer, is_name, is_word
from tests.helpers import ODD, STRANGE, Same, deep


class KindsTest(unittest.TestCase):
    def told(self, function, yes, no):
        for thing in yes:
            self.assertIs(function(thing), True, repr(thing))
            self.assertIs(function(thing), True, repr(thing))
        for thing in no:
            self.assertIs(function(thing), False, repr(thing))

    def test_integers(self):
        others = [thing for thing in STRANGE if not (isinstance(thing, int) and thing not in (True, False))]
        self.told(is_integer, [0, 1, -1, 7, 10**40, -10**40], [*others, "0", "1", [0], (1,), deep(29)])

    def test_names(self):
        self.told(is_name, ["a", "z", "ab", "abcdefgh", "zzzzzzzz"], [
            *[thing for thing in STRANGE if thing.__class__ is not str or thing != "else"], "a" * 40000, "aB", "Ab",
            "a ", " a", "a\n", "\n", "a_b", "a1", "1", "0", "`", "{", ["a"], ("a",), {"a"}, b"a", 0, 1, deep(29),
        ])

    def test_a_name_has_each_of_the_letters_and_no_other_character(self):
        for number in range(128):
            self.assertIs(is_name(chr(number)), "a" <= chr(number) <= "z")
            self.assertIs(is_name("a" + chr(number) + "a"), "a" <= chr(number) <= "z")

    def test_words(self):
        self.told(is_word, ["send", "take", "ended", "close"], [
            *STRANGE, "else", "Send", "send ", "sen", "sends", "end", "first", "any", "sendtake", ("send",), ["send"],
            b"send", 0, 1, 2, 3, deep(29),
        ])

    def test_arms_with_a_lane(self):
        yes = [(word, "a", to) for word in ("send", "take", "ended", "close") for to in (0, 1, 10**20)]
        self.told(is_arm, [*yes, ("send", "abcdefgh", 0)], [*STRANGE, deep(29)])
        for place in range(3):
            for thing in [*STRANGE, ["send"], ["a"], [0]]:
                arm = ["send", "a", 0]
                arm[place] = thing
                a_name = place == 1 and thing.__class__ is str and thing == "else"
                self.assertIs(is_arm(tuple(arm)), a_name, repr(arm))

    def test_else_arms(self):
        self.told(is_arm, [("else", 0), ("else", 1), ("else", 10**20)], [
            ("else",), ("else", "a"), ("else", "a", 0), ("else", 0, 0), ("else", -1), ("else", True), ("else", False),
            ("else", None), ("else", (0,)), ["else", 0], ("send", 0), ("", 0), ("Else", 0), (None, 0), (True, 0),
            (ODD, 0), (Same(), 0), (0, "else"), "else", ("else", [0]), ({}, 0), ([], 0),
        ])

    def test_arms_with_more_or_fewer_parts_or_as_lists(self):
        self.told(is_arm, [], [
            ("send", "a"), ("send",), ("send", "a", 0, 0), ["send", "a", 0], ("send", ["a"], 0), ("send", 0, "a"),
            ("send", "a", True), ("send", "a", False), ("send", "a", -1), ("send", "", 0), ("send", "abcdefghi", 0),
            {"send": 1}, {0: "send", 1: "a", 2: 0}, "send", ("a", "send", 0), (b"send", "a", 0),
        ])


if __name__ == "__main__":
    unittest.main()
