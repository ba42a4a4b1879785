"""[3], [11] and [80]: rows, the row of a run, and the client who does a row."""

import copy
import random
import unittest

from openlanes.errors import Stopped
from openlanes.lanes import Lanes
from openlanes.programs import Program
from openlanes.rows import client_of, is_row, row_of
from openlanes.systems import System
from tests.byhand import WORDS, Model, some_model
from tests.byrows import BOUNDS, Bare, some_row, some_server
from tests.helpers import NEW, STRANGE, check_error, deep
from tests.samples import ALONE, PAIRS, WAITING, jobs
from tests.test_crowds import some_run

LANES = Lanes({"a": 1, "b": 2})
ALL = tuple((word, lane) for word in ("close", "ended", "send", "take") for lane in ("a", "b"))
SEND, TAKE = ("send", "a"), ("take", "a")


def row_by_hand(model, steps):
    """The row of a run, by following the contents."""
    bare = Bare(model.bounds)
    standing, row = (0, model.contents()[0], (0,) * len(model.seats)), []
    for step in steps:
        if step[0]:
            arm = model.kinds[step[0]][step[1]][1][step[2]]
            row.append((bare.shut(standing[1]), None if arm[0] == "else" else (arm[0], arm[1])))
        standing = dict(model.steps(standing))[step]
    return row


def parts_of(row):
    """All tuples and strings of a row, to see that each has the class it should have."""
    return [part.__class__ for shut, arm in row for part in (shut, *shut, arm)]


class IsRowTest(unittest.TestCase):
    def check(self, told, thing):
        for _ in range(2):
            self.assertIs(is_row(LANES, thing), told, repr(thing))

    def test_rows(self):
        for row in [
            [], [((), None)], [((), SEND)], [((SEND,), None)], [((SEND,), SEND)], [((SEND, TAKE), TAKE)], [(ALL, None)],
            [(ALL, ("ended", "b"))], [((), None)] * 30, [(ALL, SEND)] * 500, [((), ("close", "b")), (ALL[2:], None)],
        ]:
            self.check(True, row)
        for seed in range(40):
            chance = random.Random(seed)
            bare = Bare({"b": 2, "a": 1})
            self.check(True, some_row(chance, bare, some_server(chance, bare.bounds), 6))

    def test_any_values(self):
        for thing in [*STRANGE, (), ((), None), (((), None),), {0: ((), None)}, "", "a", 0, 1, deep(29), range(0), {}]:
            self.check(isinstance(thing, list), thing)

    def test_items_of_any_values(self):
        for thing in [*STRANGE, [], [(), None], ((),), ((), None, None), (None, ()), SEND, "ab", 0, deep(28)]:
            self.check(False, [thing])
            self.check(False, [((), None), thing])
            self.check(False, [thing, ((), SEND)])

    def test_parts_of_any_values(self):
        bad = [["send", "a"], ("send", "c"), ("send", "a", 0), ("send",), ("a", "send"), ("else", "a"), ("else", 0),
               ("sends", "a"), ("send", "A"), ("send", ""), ("send", ("a",)), ("send", ["a"]), (["send"], "a"),
               ("send", None), (None, "a"), (True, "a"), "sa", b"sa", {"send": "a"}, 0, 1, deep(27)]
        for thing in [*[thing for thing in STRANGE if thing is not None], *bad]:
            self.check(False, [((), thing)])
        for thing in [*STRANGE, *bad]:
            self.check(False, [((thing,), None)])
            self.check(False, [((SEND, thing), None)])
            self.check(False, [((thing, TAKE), SEND)])
        for thing in [*[thing for thing in STRANGE if thing != () or thing.__class__ is not tuple], [], [SEND], "ab", SEND,
                      {SEND}, {SEND: TAKE}, 0, 1]:
            self.check(False, [(thing, None)])

    def test_shut_is_ascending_and_has_nothing_twice(self):
        for shut in [(TAKE, SEND), (SEND, SEND), (SEND, TAKE, TAKE), ALL[::-1], ALL + ALL[-1:], (("send", "b"), SEND),
                     (SEND, ("close", "b")), ALL[1:] + ALL[:1]]:
            self.check(False, [(shut, None)])
            self.check(True, [(tuple(sorted(set(shut))), None)])

    def test_the_lanes_count(self):
        row = [((("ended", "b"), SEND), ("take", "b"))]
        self.assertIs(is_row(Lanes({"a": 1, "b": 1}), row), True)
        self.assertIs(is_row(Lanes({"b": 3, "a": 2, "c": 1}), row), True)
        self.assertIs(is_row(Lanes({"b": 3}), row), False)
        self.assertIs(is_row(Lanes({"a": 3}), row), False)
        self.assertIs(is_row(Lanes({"c": 3}), []), True)

    def test_great_values(self):
        self.check(True, [((), None)] * 13000)
        self.check(False, [((), None)] * 13000 + [((), 0)])
        self.check(False, [((SEND,) * 39000, None)])
        self.check(False, ["a" * 39000])


class RowOfTest(unittest.TestCase):
    def test_runs_at_random(self):
        told = set()
        for seed in range(150):
            chance = random.Random(seed)
            model = chance.choice([some_model(chance), PAIRS, WAITING])
            steps = some_run(chance, model, chance.choice([0, 1, 5, 40]))
            row = row_of(model.made(), steps)
            self.assertIs(row.__class__, list)
            self.assertEqual(row, row_by_hand(model, steps))
            self.assertEqual(parts_of(row), parts_of(row_by_hand(model, steps)))
            self.assertIs(is_row(Lanes(model.bounds), row), True)
            told |= set(row)
        self.assertGreater(len({arm for _, arm in told}), 6)
        self.assertIn(None, {arm for _, arm in told})

    def test_a_run(self):
        steps = [("user", 0, 0), ("", 0, 1), ("user", 0, 0), ("user", 1, 0), ("", 0, 0)]
        ended = (("ended", "job"), ("ended", "stop"))
        self.assertEqual(row_of(jobs(), steps), [
            (ended + (("take", "job"), ("take", "stop")), ("send", "job")),
            (ended + (("take", "job"), ("take", "stop")), ("send", "job")),
            (ended + (("send", "job"), ("take", "stop")), ("send", "stop")),
        ])

    def test_else_arms_of_clients_and_of_the_server(self):
        system = System(Lanes({"a": 1}), Program([("any", [("else", 0)])]), {
            "k": Program([("any", [("take", "a", 0), ("else", 0)])]),
            "l": Program([("any", [("close", "a", 0)])]),
        })
        shut = (("ended", "a"), TAKE)
        steps = [("k", 0, 1), ("", 0, 0), ("l", 0, 0), ("k", 0, 1)]
        self.assertEqual(row_of(system, steps), [
            (shut, None), (shut, ("close", "a")), ((("close", "a"), SEND, TAKE), None),
        ])

    def test_no_steps_and_steps_of_the_server_alone(self):
        self.assertEqual(row_of(jobs(), []), [])
        self.assertEqual(row_of(ALONE.made(), [("", 0, 0), ("", 0, 1), ("", 1, 0)]), [])

    def test_stopped(self):
        system = jobs()
        run = [("user", 0, 0), ("user", 1, 0), ("", 0, 0)]
        for index in range(4):
            for bad in [("", 1, 0), ("", 0, 3), ("user", 2, 0), ("user", 0, 1), ("nobody", 0, 0), ("user", -1, 0)]:
                steps = run[:index] + [bad, ("", 9, 9)]
                check_error(self, Stopped, {"index": index}, row_of, system, steps)

    def test_what_is_passed_stays_and_what_is_returned_is_new(self):
        system, steps = jobs(), [("user", 0, 0), ("", 0, 1)]
        kept = copy.deepcopy(steps)
        told = row_of(system, steps)
        again = copy.deepcopy(told)
        told.clear()
        self.assertEqual(row_of(system, steps), again)
        self.assertEqual((steps, system), (kept, jobs()))

    def test_other_names_in_the_same_order(self):
        def new(deal):
            return deal and (deal[0], NEW[deal[1]])
        for seed in range(30):
            chance = random.Random(seed)
            model = some_model(chance)
            steps = some_run(chance, model, 12)
            renamed = [(NEW[who], place, index) for who, place, index in steps]
            told = [(tuple(new(deal) for deal in shut), new(arm)) for shut, arm in row_of(model.made(), steps)]
            self.assertEqual(row_of(model.renamed(NEW).made(), renamed), told)


class ClientTest(unittest.TestCase):
    def test_the_client_of_the_empty_row(self):
        self.assertEqual(client_of([]), Program([("first", []), ("first", [])]))

    def test_clients(self):
        row = [((), SEND), ((SEND, TAKE), None), ((("ended", "b"),), ("ended", "b"))]
        self.assertEqual(client_of(row).places(), [
            ("first", (("send", "a", 1),)),
            ("first", (("send", "a", 4), ("take", "a", 4), ("else", 2))),
            ("first", (("ended", "b", 4), ("ended", "b", 3))),
            ("first", ()), ("first", ()),
        ])
        self.assertEqual(client_of([((), None)]).places(), [("first", (("else", 1),)), ("first", ()), ("first", ())])
        self.assertEqual(client_of([(ALL, None)]).arms(0), [(*deal, 2) for deal in ALL] + [("else", 1)])

    def test_a_client_of_many_items(self):
        for many in (30, 700):
            client = client_of([(ALL, TAKE)] * many)
            self.assertEqual(client.size, many + 2)
            for place in (0, many // 2, many - 1):
                self.assertEqual(client.mode(place), "first")
                self.assertEqual(client.arms(place), [(*deal, many + 1) for deal in ALL] + [("take", "a", place + 1)])
            self.assertEqual((client.arms(many), client.arms(many + 1)), ([], []))

    def test_the_client_does_the_row(self):
        # Alone with a server that follows the row it can come behind its last item.
        done = []
        for seed in range(150):
            chance = random.Random(seed)
            bare = Bare(chance.choice(BOUNDS))
            server = some_server(chance, bare.bounds)
            row = some_row(chance, bare, server, chance.randint(0, 5))
            model = Model(bare.bounds, server, {"k": client_of(row).places()})
            spot = model.everywhere.index(("k", len(row)))
            comes = any(state[2][spot] for state in model.fixed_states((1,)))
            self.assertIs(comes, bool(bare.behind_row(server, row)))
            done.append(comes)
        self.assertGreater(min(done.count(True), done.count(False)), 15)

    def test_the_row_stays(self):
        row = [((SEND, TAKE), None), ((), ("close", "b"))]
        kept = copy.deepcopy(row)
        self.assertEqual(client_of(row), client_of(row))
        self.assertEqual(row, kept)


class WordsTest(unittest.TestCase):
    def test_the_words(self):
        for word in WORDS:
            self.assertIs(is_row(LANES, [(((word, "a"),), (word, "b"))]), True)


if __name__ == "__main__":
    unittest.main()
