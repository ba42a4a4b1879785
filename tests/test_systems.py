"""[2], [3], [4], [5] and [32]: systems and their steps."""

import copy
import itertools
import random
import unittest

from openlanes.errors import NoKind, NoLane, NoPlace, NoSeat, Refused, Stopped, Wrong
from openlanes.lanes import Lanes
from openlanes.programs import Program
from openlanes.systems import System
from tests.byhand import is_over, some_model, some_standing
from tests.helpers import ODD, STRANGE, check_error, deep
from tests.samples import ALONE, JOBS, PAIRS, WAITING, jobs

END = Program([("any", [])])
LANES = Lanes({"a": 1})


class MadeTest(unittest.TestCase):
    def test_properties(self):
        system = WAITING.made()
        self.assertEqual(system.lanes, Lanes(WAITING.bounds))
        self.assertEqual(system.server, Program(WAITING.server))
        self.assertEqual(system.first, (0, ((0, False), (0, False)), (0, 0)))
        self.assertEqual(system.seats, (("guest", 1), ("guest", 2)))
        self.assertEqual(system.kinds(), {kind: Program(WAITING.kinds[kind]) for kind in ("guest", "usher")})

    def test_seats_are_ascending(self):
        two, three = Program([("any", [])] * 2), Program([("any", [])] * 3)
        system = System(LANES, END, {"zz": two, "a": three, "m": END})
        self.assertEqual(system.seats, (("a", 1), ("a", 2), ("zz", 1)))
        self.assertEqual(system.first, (0, ((0, False),), (0, 0, 0)))

    def test_without_kinds(self):
        system = ALONE.made()
        self.assertEqual((system.seats, system.first, system.kinds()), ((), (0, ((0, False),), ()), {}))
        self.assertEqual(system.steps(system.first), [("", 0, 0), ("", 0, 1)])

    def test_wrong_arguments(self):
        others = [thing for thing in STRANGE if not isinstance(thing, (Lanes, Program, dict))] + [[], deep(29)]
        for thing in [*others, END, {"a": 1}, jobs()]:
            check_error(self, Wrong, {"place": 0}, System, thing, END, {})
        for thing in [*others, LANES, [("any", [])], {}, jobs()]:
            check_error(self, Wrong, {"place": 1}, System, LANES, thing, {})
        for thing in [*others, LANES, END, [("k", END)]]:
            check_error(self, Wrong, {"place": 2}, System, LANES, END, thing)

    def test_wrong_kinds(self):
        for thing in ["", "K", "abcdefghi", "a b", None, 0, True, ("k",), b"k", frozenset(), ODD]:
            check_error(self, Wrong, {"place": 2}, System, LANES, END, {thing: END})
            check_error(self, Wrong, {"place": 2}, System, LANES, END, {"k": END, thing: END})
        for thing in STRANGE:
            if not isinstance(thing, Program):
                check_error(self, Wrong, {"place": 2}, System, LANES, END, {"k": thing})
                check_error(self, Wrong, {"place": 2}, System, LANES, END, {"a": END, "k": thing})

    def test_kinds_with_names_of_one_and_of_eight_letters(self):
        self.assertEqual(sorted(System(LANES, END, {"k": END, "abcdefgh": END}).kinds()), ["abcdefgh", "k"])

    def test_the_least_missing_lane_of_all_programs(self):
        def uses(*names):
            return Program([("any", [("send", name, 0) for name in names])])
        check_error(self, NoLane, {"lane": "b"}, System, LANES, uses("a", "c"), {"k": uses("d", "b"), "a": uses("x")})
        check_error(self, NoLane, {"lane": "c"}, System, LANES, uses("c", "a"), {"k": uses("d")})
        check_error(self, NoLane, {"lane": "d"}, System, LANES, uses("a"), {"k": uses("d")})

    def test_the_order_of_the_errors(self):
        bad = Program([("any", [("send", "x", 0)])])
        check_error(self, Wrong, {"place": 0}, System, None, None, None)
        check_error(self, Wrong, {"place": 1}, System, LANES, None, None)
        check_error(self, Wrong, {"place": 2}, System, LANES, bad, None)
        check_error(self, NoLane, {"lane": "x"}, System, LANES, bad, {})

    def test_equal(self):
        system = PAIRS.made()
        self.assertTrue(system == PAIRS.made())
        self.assertFalse(system != PAIRS.made())
        kinds = system.kinds()
        turned = {kind: kinds[kind] for kind in reversed(list(kinds))}
        self.assertEqual(system, System(system.lanes, system.server, turned))
        for other in [
            System(Lanes({"a": 1, "b": 2}), system.server, kinds), System(system.lanes, END, kinds),
            System(system.lanes, system.server, {"k": kinds["k"]}), System(system.lanes, system.server, {}),
            System(system.lanes, system.server, {"k": kinds["l"], "l": kinds["k"]}),
            System(system.lanes, system.server, {"k": kinds["k"], "m": kinds["l"]}),
        ]:
            self.assertIs(system == other, False)
            self.assertIs(system != other, True)
        for thing in [*STRANGE, kinds, system.first, system.lanes, system.server]:
            if thing.__class__.__name__ != "Same":
                self.assertIs(system == thing, False)
                self.assertIs(system != thing, True)

    def test_what_is_passed_stays_and_is_not_kept(self):
        kinds = {"l": END, "k": Program([("any", [])] * 2)}
        system = System(LANES, END, kinds)
        self.assertEqual(list(kinds), ["l", "k"])
        del kinds["k"]
        kinds["l"] = Program([("any", [])] * 3)
        self.assertEqual(system.seats, (("k", 1),))
        self.assertEqual(system.kinds(), {"l": END, "k": Program([("any", [])] * 2)})

    def test_a_changed_dict_of_kinds_changes_no_answer(self):
        system = jobs()
        system.kinds().clear()
        self.assertEqual(list(system.kinds()), ["user"])
        self.assertIsNot(system.kinds(), system.kinds())


class SeatsTest(unittest.TestCase):
    def test_program(self):
        system = WAITING.made()
        self.assertEqual(system.program(""), Program(WAITING.server))
        self.assertEqual(system.program("usher"), Program(WAITING.kinds["usher"]))
        for who in ["guests", "gues", "server", " ", "a"]:
            check_error(self, NoKind, {"kind": who}, system.program, who)

    def test_seat(self):
        system = System(LANES, END, {"b": Program([("any", [])] * 3), "a": Program([("any", [])] * 2), "c": END})
        self.assertEqual([system.seat(kind, place) for kind, place in system.seats], [0, 1, 2])
        self.assertEqual(system.seat("b", 2), 2)
        for kind in ["", "d", "ab"]:
            for place in (0, 1, 9):
                check_error(self, NoKind, {"kind": kind}, system.seat, kind, place)
        for kind, place in [("a", 0), ("a", 2), ("b", 3), ("b", -1), ("c", 0), ("c", 1), ("a", True), ("a", False)]:
            check_error(self, NoSeat, {"place": place}, system.seat, kind, place)

    def test_at(self):
        system = PAIRS.made()
        content = ((1, False), (0, True))
        self.assertEqual(system.at(1, content, {}), (1, content, (0, 0, 0)))
        self.assertEqual(system.at(0, content, {("l", 1): 200, ("k", 2): 3}), (0, content, (0, 3, 200)))
        self.assertEqual(system.at(0, content, {("k", 2): 3, ("l", 1): 200}), (0, content, (0, 3, 200)))
        self.assertEqual(system.at(0, content, {("k", 1): 0}), (0, content, (0, 0, 0)))

    def test_at_keeps_and_changes_no_crowd(self):
        system = jobs()
        crowd = {("user", 1): 2}
        standing = system.at(0, system.lanes.first, crowd)
        crowd[("user", 1)] = 3
        self.assertEqual(standing[2], (2,))
        self.assertEqual(crowd, {("user", 1): 3})

    def test_at_of_what_is_not_there(self):
        system = jobs()
        for place in (-1, 2, True):
            check_error(self, NoPlace, {"place": place}, system.at, place, system.lanes.first, {})
        check_error(self, NoSeat, {"place": 2}, system.at, 0, system.lanes.first, {("user", 2): 1})
        check_error(self, NoKind, {"kind": "users"}, system.at, 0, system.lanes.first, {("users", 1): 1})


class StandingsTest(unittest.TestCase):
    def test_is_standing(self):
        system = PAIRS.made()
        content = ((1, False), (0, True))
        for counts in [(0, 0, 0), (200, 0, 1), (10**30, 10**30, 10**30)]:
            for place in (0, 1):
                self.assertIs(system.is_standing((place, content, counts)), True)
        for thing in [
            *STRANGE, [0, content, (0, 0, 0)], (0, content), (0, content, (0, 0, 0), 0), (0, content, [0, 0, 0]),
            (0, list(content), (0, 0, 0)), (2, content, (0, 0, 0)), (-1, content, (0, 0, 0)), (0, content, (0, 0)),
            (True, content, (0, 0, 0)), (False, content, (0, 0, 0)), (0, content, (0, 0, 0, 0)), (0, content, ()),
            (0, content, (0, True, 0)), (0, content, (False, 0, 0)), (0, content, (0, -1, 0)), (0, (), (0, 0, 0)),
            (0, content, (0, None, 0)), (0, ((2, False), (0, True)), (0, 0, 0)), (0, ((1, 0), (0, 1)), (0, 0, 0)),
            (0, ((1, False),), (0, 0, 0)), (None, content, (0, 0, 0)), (0, content, 0), (0, None, (0, 0, 0)),
            ("", content, (0, 0, 0)), (0, content, "000"), (0, content, {}), deep(29), (content, 0, (0, 0, 0)),
        ]:
            self.assertIs(system.is_standing(thing), False, repr(thing))

    def test_is_standing_without_seats(self):
        system = ALONE.made()
        self.assertIs(system.is_standing((2, ((2, True),), ())), True)
        self.assertIs(system.is_standing((2, ((2, True),), (0,))), False)
        self.assertIs(system.is_standing((3, ((2, True),), ())), False)

    def test_is_above(self):
        system = PAIRS.made()
        content, other = system.lanes.first, ((0, False), (0, True))
        rows = [(place, row, counts) for place in (0, 1) for row in (content, other)
                for counts in itertools.product((0, 1, 200), repeat=3)]
        for one in rows:
            self.assertIs(system.is_above(one, one), True)
            for two in rows[::5]:
                self.assertIs(system.is_above(one, two), is_over(one, two))


class StepsTest(unittest.TestCase):
    def check_steps(self, model, system, standing):
        """Compares what can be done from a standing with what is done by hand; returns the steps."""
        found = model.steps(standing)
        steps = [step for step, _ in found]
        self.assertEqual(system.steps(standing), steps)
        self.assertEqual(steps, sorted(steps))
        for step, behind in found:
            self.assertEqual(repr(system.after(standing, step)), repr(behind))
            self.assertIs(system.is_standing(behind), True)
        whos = [("", model.server), *model.kinds.items(), ("nobody", [("any", ())])]
        for who, places in whos:
            for place in range(-1, len(places) + 1):
                for index in range(-1, 5):
                    step = (who, place, index)
                    if step not in steps:
                        check_error(self, Refused, {"what": step}, system.after, standing, step)
                        check_error(self, Stopped, {"index": 0}, system.run, standing, [step])
                        self.assertIs(system.is_run(standing, [step]), False)
        return steps

    def test_systems_at_random(self):
        for seed in range(80):
            chance = random.Random(seed)
            model = some_model(chance)
            system = model.made()
            for _ in range(8):
                self.check_steps(model, system, some_standing(chance, model, chance.choice([1, 3, 200])))

    def test_samples_on_the_way(self):
        for seed, model in enumerate([JOBS, WAITING, PAIRS, ALONE]):
            chance = random.Random(seed)
            system = model.made()
            standing, way, steps = system.first, [system.first], []
            for _ in range(40):
                found = self.check_steps(model, system, standing)
                if not found:
                    break
                steps.append(chance.choice(found))
                standing = dict(model.steps(standing))[steps[-1]]
                way.append(standing)
            self.assertEqual(system.run(system.first, steps), way)
            self.assertIs(system.is_run(system.first, steps), True)

    def test_clients_at_place_0_are_not_counted(self):
        system = jobs()
        full = ((1, False), (0, False))
        self.assertEqual(system.after(system.first, ("user", 0, 0)), (0, full, (1,)))
        self.assertEqual(system.after((0, full, (1,)), ("user", 1, 0)), (0, ((1, False), (1, False)), (0,)))
        self.assertIn(("user", 0, 0), system.steps((0, ((0, False), (1, False)), (0,))))

    def test_a_kind_of_one_place_has_no_seat_but_steps(self):
        system = System(LANES, END, {"k": Program([("any", [("send", "a", 0), ("take", "a", 0)])])})
        self.assertEqual(system.seats, ())
        self.assertEqual(system.steps(system.first), [("k", 0, 0)])
        self.assertEqual(system.after(system.first, ("k", 0, 0)), (0, ((1, False),), ()))

    def test_great_counts(self):
        system = jobs()
        self.assertEqual(system.after((0, system.lanes.first, (200,)), ("user", 1, 0))[2], (199,))
        self.assertEqual(system.after((0, system.lanes.first, (200,)), ("user", 0, 0))[2], (201,))

    def test_what_can_be_done_can_be_done_from_above(self):
        for seed in range(40):
            chance = random.Random(seed)
            model = some_model(chance)
            system = model.made()
            for _ in range(10):
                low = some_standing(chance, model, 2)
                high = (low[0], low[1], tuple(n + chance.choice([0, 1, 7, 200]) for n in low[2]))
                for step in system.steps(low):
                    self.assertIn(step, system.steps(high))
                    self.assertIs(system.is_above(system.after(high, step), system.after(low, step)), True)

    def test_what_the_document_prints(self):
        system = jobs()
        self.assertEqual((system.seats, system.first), ((("user", 1),), (0, ((0, False), (0, False)), (0,))))
        self.assertEqual(system.steps(system.first), [("", 0, 2), ("user", 0, 0)])
        way = system.run(system.first, [("user", 0, 0), ("user", 1, 0), ("", 0, 0)])
        self.assertEqual(way[-1], (1, ((1, False), (0, False)), (0,)))


class RunsTest(unittest.TestCase):
    def test_the_empty_run(self):
        system = jobs()
        self.assertEqual(system.run(system.first, []), [system.first])
        self.assertIs(system.is_run(system.first, []), True)

    def test_stopped_at_the_first_step_that_can_not_be_made(self):
        system = jobs()
        run = [("user", 0, 0), ("user", 1, 0), ("", 0, 0)]
        for index in range(3):
            for bad in [("", 1, 0), ("", 0, 3), ("user", 2, 0), ("user", 0, 1), ("nobody", 0, 0), ("user", -1, 0)]:
                steps = run[:index] + [bad, ("", 9, 9)]
                check_error(self, Stopped, {"index": index}, system.run, system.first, steps)
                self.assertIs(system.is_run(system.first, steps), False)

    def test_refused_keeps_the_step_itself(self):
        system = jobs()
        step = ("user", 1, 0)
        with self.assertRaises(Refused) as caught:
            system.after(system.first, step)
        self.assertIs(caught.exception.what, step)

    def test_is_run_of_any_value(self):
        system = jobs()
        good = ("user", 0, 0)
        self.assertIs(system.is_run(system.first, [good]), True)
        for thing in [*STRANGE, (good,), {good: 1}, {good}, good, "user", 1, deep(29)]:
            self.assertIs(system.is_run(system.first, thing), False, repr(thing))
        for step in [
            *STRANGE, list(good), ("user", 0), ("user", 0, 0, 0), ("user", False, 0), ("user", 0, False),
            ("user", "0", 0), ("user", 0, None), (0, 0, 0), (None, 0, 2), (False, 0, 2), ("", False, 2), ("", 0, 2, 2),
            ("user", (0,), 0),
            (("user",), 0, 0), (["user"], 0, 0), ({}, 0, 0), b"abc", "abc", deep(29), 10**30, ("user", 10**30, 0),
            ("user", 0, 10**30), ("user", -1, 0), ("user", 0, -1), ("", -2, 2), ("", 0, -1),
        ]:
            self.assertIs(system.is_run(system.first, [step]), False, repr(step))
            self.assertIs(system.is_run(system.first, [good, step]), False, repr(step))
            check_error(self, Refused, {"what": step}, system.after, system.first, step)

    def test_nothing_is_changed_and_what_is_returned_is_new(self):
        system = jobs()
        steps = [("user", 0, 0), ("", 0, 1)]
        kept = copy.deepcopy(steps)
        for _ in range(2):
            way = system.run(system.first, steps)
            self.assertEqual(len(way), 3)
            way.clear()
            found = system.steps(system.first)
            self.assertEqual(found, [("", 0, 2), ("user", 0, 0)])
            found.clear()
        self.assertEqual(steps, kept)
        self.assertEqual(system, jobs())

    def test_a_run_of_200_steps(self):
        system = jobs()
        steps = [("user", 0, 0), ("", 0, 1)] * 100
        self.assertEqual(system.run(system.first, steps)[-1], (0, system.lanes.first, (100,)))
        self.assertIs(system.is_run(system.first, steps), True)


if __name__ == "__main__":
    unittest.main()
