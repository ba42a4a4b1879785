"""[2], [3], [4] and [22]: lanes, their states and contents."""

import copy
import itertools
import unittest

from openlanes.errors import NoLane, Shut, Wrong
from openlanes.lanes import Lanes
from openlanes.programs import Program
from tests.byhand import WORDS, arm_result
from tests.helpers import ODD, STRANGE, check_error, deep

BOUNDS = [{"a": 1}, {"a": 3}, {"ask": 1, "say": 2}, {"z": 1, "m": 2, "a": 1}, {"b": 3, "a": 3}]


def contents_by_hand(bounds):
    rows = [[(n, closed) for closed in (True, False) for n in range(bounds[name] + 1)] for name in sorted(bounds)]
    return sorted(itertools.product(*rows))


class MadeTest(unittest.TestCase):
    def test_names_and_first(self):
        lanes = Lanes({"say": 2, "ask": 1, "b": 3})
        self.assertEqual(lanes.names, ("ask", "b", "say"))
        self.assertEqual(lanes.first, ((0, False),) * 3)
        self.assertIs(lanes.names.__class__, tuple)
        self.assertIs(lanes.first.__class__, tuple)
        for state in lanes.first:
            self.assertIs(state[0].__class__, int)
            self.assertIs(state[1], False)

    def test_names_of_one_and_of_eight_letters_and_great_bounds(self):
        lanes = Lanes({"a": 1, "abcdefgh": 10**12})
        self.assertEqual(lanes.names, ("a", "abcdefgh"))
        self.assertEqual((lanes.bound("a"), lanes.bound("abcdefgh")), (1, 10**12))
        self.assertEqual(lanes.done(((0, False), (10**12 - 1, False)), "send", "abcdefgh")[1], (10**12, False))

    def test_wrong_bounds(self):
        for thing in [*STRANGE, 1, 5, "a", [("a", 1)], (("a", 1),), ["a"], deep(29)]:
            check_error(self, Wrong, {"place": 0}, Lanes, thing)

    def test_wrong_names_in_bounds(self):
        for thing in ["", "abcdefghi", "A", "a b", "a1", b"a", None, True, 0, 1, ("a",), frozenset(["a"]), ODD]:
            check_error(self, Wrong, {"place": 0}, Lanes, {thing: 1})
            check_error(self, Wrong, {"place": 0}, Lanes, {"a": 1, thing: 1})

    def test_wrong_numbers_in_bounds(self):
        for thing in [*STRANGE, 0, -1, "1", [1], (1,)]:
            check_error(self, Wrong, {"place": 0}, Lanes, {"a": thing})
            check_error(self, Wrong, {"place": 0}, Lanes, {"a": 1, "b": thing})

    def test_no_lane_is_too_few(self):
        check_error(self, Wrong, {"place": 0}, Lanes, {})

    def test_many_lanes_and_a_dict_changed_behind(self):
        bounds = {"a": 1, "b": 2}
        lanes = Lanes(bounds)
        bounds["a"] = 3
        bounds["c"] = 1
        del bounds["b"]
        self.assertEqual(lanes.names, ("a", "b"))
        self.assertEqual((lanes.bound("a"), lanes.bound("b")), (1, 2))
        self.assertEqual(lanes, Lanes({"b": 2, "a": 1}))

    def test_what_is_passed_stays(self):
        bounds = {"b": 2, "a": 1}
        Lanes(bounds)
        self.assertEqual(list(bounds.items()), [("b", 2), ("a", 1)])


class LevelTest(unittest.TestCase):
    def test_level(self):
        self.assertEqual(Lanes.level(["b", "a"], 2), Lanes({"a": 2, "b": 2}))
        self.assertEqual(Lanes.level(("b", "a", "c"), 1), Lanes({"a": 1, "b": 1, "c": 1}))
        self.assertEqual(Lanes.level(["abcdefgh"], 5).names, ("abcdefgh",))
        self.assertIs(Lanes.level(["a"], 1).__class__, Lanes)

    def test_wrong_names(self):
        for thing in [*STRANGE, {"a": 1}, {"a"}, "a", "ab", 1, [], (), deep(29)]:
            if thing != ("a",) or thing.__class__ is not tuple:
                check_error(self, Wrong, {"place": 0}, Lanes.level, thing, 1)
        for thing in [["a", "a"], ("b", "a", "b"), ["a", ""], ["A"], ["abcdefghi"], [None], [["a"]], ["a", 1], [{}]]:
            check_error(self, Wrong, {"place": 0}, Lanes.level, thing, 1)

    def test_wrong_bound(self):
        for thing in [*STRANGE, 0, -1, "1", [1], (1,)]:
            check_error(self, Wrong, {"place": 1}, Lanes.level, ["a"], thing)

    def test_the_first_wrong_argument_is_told(self):
        check_error(self, Wrong, {"place": 0}, Lanes.level, ["a", "a"], 0)
        check_error(self, Wrong, {"place": 0}, Lanes.level, [], True)

    def test_what_is_passed_stays_and_is_not_kept(self):
        names = ["b", "a"]
        lanes = Lanes.level(names, 1)
        self.assertEqual(names, ["b", "a"])
        names.append("c")
        self.assertEqual(lanes.names, ("a", "b"))


class AskedTest(unittest.TestCase):
    def test_bound(self):
        lanes = Lanes({"ask": 1, "say": 2})
        self.assertEqual((lanes.bound("ask"), lanes.bound("say")), (1, 2))
        for lane in ["", "a", "asks", "as", "ASK", "ask ", "abcdefghi"]:
            check_error(self, NoLane, {"lane": lane}, lanes.bound, lane)

    def test_len(self):
        self.assertEqual([len(Lanes(bounds)) for bounds in BOUNDS], [1, 1, 2, 3, 2])

    def test_in(self):
        lanes = Lanes({"ask": 1, "say": 2})
        self.assertIs("ask" in lanes, True)
        self.assertIs("say" in lanes, True)
        for thing in [*STRANGE, "a", "sa", "Ask", 0, 1, ["ask"], ("ask",), b"ask", "asksay", deep(29)]:
            self.assertIs(thing in lanes, False, repr(thing))

    def test_equal(self):
        lanes = Lanes({"ask": 1, "say": 2})
        self.assertTrue(lanes == Lanes({"say": 2, "ask": 1}))
        self.assertFalse(lanes != Lanes({"say": 2, "ask": 1}))
        for bounds in [{"ask": 1}, {"ask": 2, "say": 2}, {"ask": 1, "say": 1}, {"ask": 1, "sag": 2},
                       {"ask": 1, "say": 2, "z": 1}, {"ask": 2, "say": 1}]:
            self.assertIs(lanes == Lanes(bounds), False)
            self.assertIs(lanes != Lanes(bounds), True)

    def test_equal_to_no_value_of_another_class(self):
        lanes = Lanes({"a": 1})
        for thing in [*STRANGE, {"a": 1}, ("a",), lanes.first]:
            if thing.__class__ is not Lanes and thing.__class__.__name__ != "Same":
                self.assertIs(lanes == thing, False)
                self.assertIs(lanes != thing, True)
        self.assertIs(Lanes({"a": 1}) == Program([("any", [])]), False)


class ContentsTest(unittest.TestCase):
    def test_contents(self):
        for bounds in BOUNDS:
            lanes = Lanes(bounds)
            found = lanes.contents()
            self.assertEqual(found, contents_by_hand(bounds))
            for content in found:
                self.assertIs(lanes.is_content(content), True)
                self.assertTrue(all(state[1].__class__ is bool and state[0].__class__ is int for state in content))

    def test_a_changed_list_of_contents_changes_no_answer(self):
        lanes = Lanes({"a": 1})
        found = lanes.contents()
        found.clear()
        self.assertEqual(lanes.contents(), [((0, False),), ((0, True),), ((1, False),), ((1, True),)])
        self.assertIsNot(lanes.contents(), lanes.contents())

    def test_is_content(self):
        lanes = Lanes({"a": 1, "b": 2})
        good = ((1, False), (2, True))
        self.assertIs(lanes.is_content(good), True)
        for thing in [
            ((2, False), (2, True)), ((1, False), (3, True)), ((-1, False), (0, True)), ((1, 0), (2, 1)),
            ((True, False), (2, True)), ((False, False), (0, False)), ((1, False),),
            ((1, False), (2, True), (0, False)),
            [(1, False), (2, True)], ([1, False], (2, True)), ((1,), (2, True)), ((1, False, 0), (2, True)),
            ((False, 1), (2, True)), ((1, None), (2, True)), (("1", False), (2, True)), (1, False), "ab", ((), ()),
            ((1, False), None), ((None, False), (2, True)), deep(29), {0: (1, False), 1: (2, True)}, 1, 2, *STRANGE,
        ]:
            self.assertIs(lanes.is_content(thing), False, repr(thing))

    def test_state(self):
        lanes = Lanes({"say": 2, "ask": 1})
        content = ((1, True), (2, False))
        self.assertEqual(lanes.state(content, "ask"), (1, True))
        self.assertEqual(lanes.state(content, "say"), (2, False))
        check_error(self, NoLane, {"lane": "no"}, lanes.state, content, "no")
        check_error(self, NoLane, {"lane": ""}, lanes.state, content, "")


class ArmsTest(unittest.TestCase):
    def test_all_arms_at_all_contents(self):
        for bounds in BOUNDS:
            lanes = Lanes(bounds)
            for content in lanes.contents():
                shut = []
                for word in WORDS:
                    for spot, lane in enumerate(sorted(bounds)):
                        state = arm_result(content[spot], bounds[lane], word)
                        self.assertIs(lanes.is_open(content, word, lane), state is not None)
                        if state is None:
                            shut.append((word, lane))
                            check_error(self, Shut, {"word": word, "lane": lane}, lanes.done, content, word, lane)
                        else:
                            after = content[:spot] + (state,) + content[spot + 1:]
                            self.assertEqual(repr(lanes.done(content, word, lane)), repr(after))
                self.assertEqual(lanes.shut(content), sorted(shut))

    def test_a_lane_empty_full_and_closed(self):
        lanes = Lanes({"a": 2})
        opened = {state: [word for word in WORDS if lanes.is_open((state,), word, "a")]
                  for state in [(0, False), (1, False), (2, False), (0, True), (1, True), (2, True)]}
        self.assertEqual(opened, {
            (0, False): ["close", "send"], (1, False): ["close", "send", "take"], (2, False): ["close", "take"],
            (0, True): ["ended"], (1, True): ["take"], (2, True): ["take"],
        })
        self.assertEqual(lanes.done(((0, True),), "ended", "a"), ((0, True),))
        self.assertEqual(lanes.done(((2, False),), "close", "a"), ((2, True),))
        self.assertEqual(lanes.done(((2, True),), "take", "a"), ((1, True),))
        self.assertIs(lanes.done(((0, False),), "close", "a")[0][1], True)

    def test_no_lane_comes_first(self):
        lanes = Lanes({"a": 1})
        for method in (lanes.is_open, lanes.done):
            for word in WORDS:
                check_error(self, NoLane, {"lane": "b"}, method, lanes.first, word, "b")
                check_error(self, NoLane, {"lane": ""}, method, lanes.first, word, "")

    def test_what_the_document_prints(self):
        lanes = Lanes({"ask": 1, "say": 2})
        self.assertEqual(lanes.first, ((0, False), (0, False)))
        self.assertEqual(lanes.done(lanes.first, "send", "say"), ((0, False), (1, False)))
        self.assertEqual(lanes.shut(((1, False), (0, True))), [
            ("close", "say"), ("ended", "ask"), ("send", "ask"), ("send", "say"), ("take", "say"),
        ])

    def test_asking_changes_nothing(self):
        lanes = Lanes({"a": 1, "b": 2})
        content = ((1, False), (0, True))
        before = copy.deepcopy(content)
        for _ in range(2):
            self.assertEqual(lanes.shut(content), [("close", "b"), ("ended", "a"), ("send", "a"), ("send", "b"),
                                                   ("take", "b")])
            lanes.shut(content).clear()
            lanes.done(content, "take", "a")
        self.assertEqual(content, before)
        self.assertEqual(lanes, Lanes({"a": 1, "b": 2}))


if __name__ == "__main__":
    unittest.main()
