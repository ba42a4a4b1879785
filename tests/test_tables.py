"""[3], [10], [11] and [82]: which servers follow the same rows, with a row that parts them or a table."""

import copy
import random
import unittest
from itertools import combinations

from openlanes.errors import NoLane, TooMany
from openlanes.following import follows
from openlanes.lanes import Lanes
from openlanes.programs import Program
from openlanes.rows import is_row
from openlanes.tables import alike, is_table, parting, table
from tests.byrows import BOUNDS, Bare, changed, some_server, some_servers, turned
from tests.helpers import NEW, STRANGE, check_error, deep

LANES = Lanes({"ask": 1, "say": 1})
ECHO = Program([("any", [("take", "ask", 1)]), ("any", [("send", "say", 0)])])
LATE = Program([("any", [("take", "ask", 1)]), ("any", [("send", "say", 2)]), ("any", [])])
END = Program([("any", [])])
ONE = Lanes({"a": 1})
# A server that takes one, two or three signals in a row, and then none any more.
TAKES = [Program([("any", [("take", "a", k + 1)]) for k in range(many)] + [("any", [])]) for many in range(4)]
TAKES_ALL = Program([("any", [("take", "a", 0)])])


def row_is_right(case, lanes, one, other, row):
    """Checks that the row is one that one follows and other does not."""
    case.assertIs(is_row(lanes, row), True)
    case.assertIs(follows(lanes, one, row), True)
    case.assertIs(follows(lanes, other, row), False)


class AgainstAllRowsTest(unittest.TestCase):
    def compare(self, bare, one, other, items, most):
        """Compares with a search of all rows of these items; returns how long the told row is, or None."""
        first, second = Program(one), Program(other)
        row = parting(bare.lanes, first, second, most=10000)
        fewest = bare.parted_by(one, other, items, most)
        if row is None:
            self.assertIsNone(fewest)
            return None
        row_is_right(self, bare.lanes, first, second, row)
        if len(row) <= most:
            self.assertEqual(len(row), fewest)
        else:
            self.assertIsNone(fewest)
        return len(row)

    def test_all_items_of_one_lane(self):
        told = []
        for seed in range(250):
            chance = random.Random(seed)
            bare = Bare(chance.choice([{"a": 1}, {"a": 2}]))
            items = bare.all_items()
            one, other = some_servers(chance, bare.bounds)
            told.append(self.compare(bare, one, other, items, 9))
            back = self.compare(bare, other, one, items, 9)
            self.assertIs(alike(bare.lanes, Program(one), Program(other)), told[-1] is None and back is None)
        self.assertGreater(told.count(None), 60)
        self.assertGreater(len([length for length in told if length and length > 1]), 25)

    def test_items_of_two_lanes(self):
        told = []
        for seed in range(60):
            chance = random.Random(seed)
            bare = Bare({"a": 1, "b": 1})
            one, other = some_servers(chance, bare.bounds)
            told.append(self.compare(bare, one, other, bare.full_items(), 4))
        self.assertGreater(len(set(told)), 2)

    def test_chains(self):
        for k, one in enumerate(TAKES):
            for n, other in enumerate(TAKES):
                # Who can take more may leave it: only that one signal more is gone tells them apart.
                row = parting(ONE, one, other)
                if k > n:
                    row_is_right(self, ONE, one, other, row)
                    self.assertEqual(len(row), n + 2)
                else:
                    self.assertIsNone(row)
                self.assertIs(alike(ONE, one, other), k == n)


class AgainstPairsTest(unittest.TestCase):
    def test_tables_at_random(self):
        told = []
        for seed in range(130):
            chance = random.Random(seed)
            bare = Bare(chance.choice(BOUNDS))
            one, other = some_servers(chance, bare.bounds)
            rows, parted = bare.pairs(one, other, 40)
            found = table(bare.lanes, Program(one), Program(other), most=10000)
            self.assertIs(parting(bare.lanes, Program(one), Program(other), most=10000) is None, not parted)
            if parted:
                self.assertIsNone(found)
            else:
                self.assertIs(found.__class__, list)
                self.assertEqual(repr(found), repr(bare.told(set().union(*rows))))
                self.assertIs(is_table(bare.lanes, Program(one), Program(other), found), True)
            told.append(None if parted else len(found))
        self.assertGreater(min(told.count(None), len(told) - told.count(None)), 15)
        self.assertGreater(max(length or 0 for length in told), 60)

    def test_most_at_below_and_above_what_is_counted(self):
        parted_late = 0
        for seed in range(80):
            chance = random.Random(seed)
            bare = Bare(chance.choice(BOUNDS))
            one, other = some_servers(chance, bare.bounds)
            rows, parted = bare.pairs(one, other, 40)
            many = len(set().union(*rows))
            parted_late += parted and len(rows) > 1
            first, second = Program(one), Program(other)
            for function in (parting, table):
                told = function(bare.lanes, first, second, most=10000)
                for most in (many, many + 1):
                    self.assertEqual(function(bare.lanes, first, second, most=most), told)
                for most in {1, many // 2, many - 1}:
                    if 0 < most < many:
                        check_error(self, TooMany, {"most": most}, function, bare.lanes, first, second, most=most)
            self.check_alike(bare, one, other, many, parted)
        self.assertGreater(parted_late, 10)

    def check_alike(self, bare, one, other, many, parted):
        """The contrary direction counts for alike only if no row parts them in this one."""
        first, second = Program(one), Program(other)
        if not parted:
            rows, parted = bare.pairs(other, one, 40)
            many = max(many, len(set().union(*rows)))
        for most in (many, many + 1, 10000):
            self.assertIs(alike(bare.lanes, first, second, most=most), not parted)
        if many > 1:
            check_error(self, TooMany, {"most": many - 1}, alike, bare.lanes, first, second, most=many - 1)

    def test_most_is_300_if_it_is_not_passed(self):
        # A server of five places that choose what they do, beside itself.
        told = set()
        for seed in range(60):
            chance = random.Random(seed)
            bare = Bare({"a": 1, "b": 1, "c": 1})
            one = Program(some_server(chance, bare.bounds, ("send", "take", "close")))
            other = Program(changed(chance, one.places()))
            for function in (parting, table, alike):
                try:
                    found = function(bare.lanes, one, other, most=300)
                except TooMany:
                    check_error(self, TooMany, {"most": 300}, function, bare.lanes, one, other)
                    told.add(True)
                else:
                    self.assertEqual(function(bare.lanes, one, other), found)
                    told.add(False)
        self.assertEqual(told, {True, False})


class IsTableTest(unittest.TestCase):
    def some_tables(self, many):
        """Servers that no row parts, with the table."""
        for seed in range(many):
            chance = random.Random(seed)
            bare = Bare(chance.choice([{"a": 1}, {"a": 2}, {"a": 1, "b": 1}]))
            one, other = some_servers(chance, bare.bounds)
            found = table(bare.lanes, Program(one), Program(other), most=10000)
            if found is not None and len(found) < 60:
                yield chance, bare, one, other, found

    def test_pairs_left_out_put_in_doubled_or_otherwise(self):
        told = [0, 0]
        for chance, bare, one, other, found in self.some_tables(90):
            first, second = Program(one), Program(other)
            rows = [found + found[:2], found[::-1], found[:-1], []]
            rows += [found[:k] + found[k + 1:] for k in range(len(found))]
            states = [(place, content) for place in range(len(other)) for content in bare.contents()]
            for pair in chance.sample(found, min(4, len(found))):
                less = pair[1][:-1]
                more = tuple(sorted({*pair[1], chance.choice(states)}))
                for standings in (less, more, tuple(sorted(chance.sample(states, min(3, len(states)))))):
                    rows.append([*found, (pair[0], standings)])
                    rows.append([(pair[0], standings) if row == pair else row for row in found])
            for row in rows:
                chance.shuffle(row)
                told_here = is_table(bare.lanes, first, second, row)
                self.assertIs(told_here, bare.is_table(one, other, row))
                told[told_here] += 1
        self.assertGreater(min(told), 100)

    def test_no_table_for_servers_that_a_row_parts(self):
        for seed in range(60):
            chance = random.Random(seed)
            bare = Bare({"a": 1})
            one, other = some_servers(chance, bare.bounds)
            if parting(bare.lanes, Program(one), Program(other)) is None:
                continue
            states = [(place, content) for place in range(len(other)) for content in bare.contents()]
            homes = [(place, content) for place in range(len(one)) for content in bare.contents()]
            some = [rows for k in (1, 2, len(states)) for rows in combinations(states, k)][:200]
            every = [(home, rows) for home in homes for rows in some] + bare.told(set().union(*bare.pairs(one, other, 40)[0]))
            self.assertIs(is_table(bare.lanes, Program(one), Program(other), every), False)

    def test_all_pairs_that_can_be(self):
        # Each pair is there, also those that no row leads to; only those without standings are missing.
        bare = Bare({"a": 1})
        homes = [(0, content) for content in bare.contents()]
        every = [(home, rows) for home in homes for k in range(1, 5) for rows in combinations(homes, k)]
        self.assertIs(is_table(ONE, END, END, every), False)
        same = [((0, content), ((0, content),)) for content in bare.contents()]
        self.assertIs(is_table(ONE, END, END, same), True)
        self.assertIs(is_table(ONE, END, END, same[::-1] * 3), True)
        # The other one can do what is done here in one of its two contents only, and what is behind that is there.
        self.assertIs(is_table(ONE, END, END, [*same, (homes[0], (homes[0], homes[1]))]), True)
        self.assertIs(is_table(ONE, END, END, [*same, (homes[3], (homes[0],))]), False)

    def test_pairs_that_are_no_pairs(self):
        found = table(LANES, LATE, LATE)
        standing, standings = found[-1]
        content, some = standing[1], standings[0]
        self.assertIs(is_table(LANES, LATE, LATE, found), True)
        for thing in [
            *STRANGE, [], (), standing, (standing,), [standing, standings], (standing, standings, standings), deep(28),
            (standing, list(standings)), (list(standing), standings), (standing, ()), (standing, standings * 2),
            (standing, standing), ((0, content, ()), standings), ((3, content), standings), ((-1, content), standings),
            ((True, content), standings), ((0, list(content)), standings), ((0, ((0, 0), (0, 0))), standings),
            ((0, ((2, False), (0, False))), standings), ((0, content[:1]), standings), (standing, (standing, 0)),
            (standing, ((3, content),)), (standing, ((False, content),)), (standing, (list(some),)), (standing, None),
            (standing, ((1, content), (0, content))), (standing, ((0, content), (0, content))), (standing, (None,)),
            (standing, ((0, ((False, False), (0, False))),)), (standing, ((0, ((0, 1), (0, False))),)), "ab", 0,
            (standing, {some}), (standing, {some: 1}), (standing, ((0,),)), (None, standings), (standing, ([],)),
        ]:
            self.assertIs(is_table(LANES, LATE, LATE, [*found, thing]), False, repr(thing))
            self.assertIs(is_table(LANES, LATE, LATE, [thing]), False, repr(thing))
            self.assertIs(is_table(LANES, LATE, LATE, [thing, *found]), False, repr(thing))

    def test_standings_not_ascending_or_twice(self):
        found = table(LANES, LATE, LATE)
        longer = [pair for pair in found if len(pair[1]) > 1]
        self.assertTrue(longer)
        for pair in found:
            standing, some = pair
            for standings in (some[::-1], some[1:] + some[:1], some + some[-1:], some[:1] + some, some * 2):
                if standings == some:
                    continue
                other = (standing, standings)
                for row in ([*found, other], [other, *found], [other if one == pair else one for one in found]):
                    self.assertIs(is_table(LANES, LATE, LATE, row), False)

    def test_any_values(self):
        found = table(LANES, LATE, LATE)
        for thing in [*STRANGE, tuple(found), {pair: 1 for pair in found}, set(found), found[0], deep(29), "", 0, [[]],
                      [found], [None] * 39000, [((), ())] * 13000]:
            self.assertIs(is_table(LANES, LATE, LATE, thing), False)

    def test_the_places_of_each_server(self):
        # LATE has a place more than ECHO: a standing there is one of LATE only.
        there = (2, LANES.first)
        found = table(LANES, LATE, LATE)
        for one, other, pair in ((ECHO, LATE, (there, (there,))), (LATE, ECHO, ((0, LANES.first), (there,)))):
            self.assertIs(is_table(LANES, one, other, [*found, pair]), False)


class EdgesTest(unittest.TestCase):
    def test_what_the_document_says_of_echo_and_late(self):
        self.assertIsNone(parting(LANES, ECHO, ECHO))
        row = parting(LANES, ECHO, LATE)
        row_is_right(self, LANES, ECHO, LATE, row)
        self.assertEqual(len(row), 3)
        self.assertIsNone(parting(LANES, LATE, ECHO))
        self.assertIs(alike(LANES, ECHO, LATE), False)
        self.assertIs(alike(LANES, LATE, ECHO), False)
        self.assertIsNone(table(LANES, ECHO, LATE))
        self.assertIs(is_table(LANES, LATE, ECHO, table(LANES, LATE, ECHO)), True)

    def test_the_same_server(self):
        for seed in range(40):
            chance = random.Random(seed)
            bare = Bare(chance.choice(BOUNDS))
            server = Program(some_server(chance, bare.bounds))
            self.assertIs(alike(bare.lanes, server, server, most=10000), True)
            self.assertIs(alike(bare.lanes, server, Program(turned(server.places())), most=10000), True)
            self.assertIsNone(parting(bare.lanes, server, Program(server.places()), most=10000))

    def test_places_doubled_and_never_come_to(self):
        doubled = Program([("any", [("take", "a", 1), ("take", "a", 2)]), ("any", [("take", "a", 0)]),
                           ("any", [("take", "a", 1)]), ("first", [("close", "a", 3), ("else", 0)])])
        self.assertIs(alike(ONE, TAKES_ALL, doubled), True)
        self.assertIs(alike(ONE, doubled, TAKES_ALL), True)

    def test_modes_and_orders(self):
        lanes = Lanes({"a": 1, "b": 1})
        arms = [("send", "a", 1), ("send", "b", 1)]
        first, second = Program([("first", arms), ("any", [])]), Program([("first", arms[::-1]), ("any", [])])
        both = Program([("any", arms), ("any", [])])
        self.assertIs(alike(lanes, both, first), False)
        self.assertIs(alike(lanes, first, second), False)
        self.assertIsNone(parting(lanes, first, both))
        self.assertEqual(len(parting(lanes, both, first)), 1)
        self.assertIs(alike(lanes, both, Program([("any", arms[::-1]), ("any", [])])), True)

    def test_equal_arms_and_else_arms(self):
        twice = Program([("first", [("take", "a", 0), ("take", "a", 0), ("take", "a", 0)])])
        self.assertIs(alike(ONE, TAKES_ALL, twice), True)
        round_and_round = Program([("first", [("else", 1)]), ("any", [("else", 0)])])
        self.assertIs(alike(ONE, END, round_and_round), True)
        self.assertIs(alike(ONE, TAKES_ALL, Program([("first", [("else", 0), ("take", "a", 0)])])), True)
        self.assertIs(alike(ONE, TAKES_ALL, Program([("first", [("else", 1), ("take", "a", 0)]), ("any", [])])), True)
        sends = Program([("first", [("else", 1), ("take", "a", 0)]), ("any", [("send", "a", 0)])])
        self.assertIs(alike(ONE, TAKES_ALL, sends), False)
        self.assertIsNone(parting(ONE, TAKES_ALL, sends))

    def test_lanes_that_nobody_closes_but_clients(self):
        # An ended arm matters since clients may close the lane.
        ended = Program([("any", [("take", "a", 0), ("ended", "a", 1)]), ("any", [])])
        tells = Program([("any", [("take", "a", 0), ("ended", "a", 1)]), ("any", [("send", "b", 1)])])
        lanes = Lanes({"a": 1, "b": 1})
        self.assertIs(alike(lanes, TAKES_ALL, ended), True)
        row = parting(lanes, tells, TAKES_ALL)
        self.assertEqual((len(row), row[0][1]), (2, ("close", "a")))
        self.assertIsNone(parting(lanes, TAKES_ALL, ended))

    def test_parted_at_once_and_late(self):
        sends = Program([("any", [("send", "a", 1)]), ("any", [])])
        self.assertEqual(parting(ONE, sends, END), [((("ended", "a"), ("send", "a")), None)])
        self.assertIsNone(parting(ONE, END, sends))
        self.assertIs(alike(ONE, END, sends), False)
        self.assertEqual(len(parting(ONE, TAKES_ALL, TAKES[3])), 5)

    def test_the_pairs_of_servers_that_do_nothing(self):
        contents = ONE.contents()
        self.assertEqual(table(ONE, END, END), [((0, c), ((0, c),)) for c in contents])
        self.assertIs(alike(ONE, END, END, most=4), True)
        check_error(self, TooMany, {"most": 3}, alike, ONE, END, END, most=3)


class ErrorsTest(unittest.TestCase):
    def test_names_that_are_no_lanes(self):
        one = Program([("any", [("send", "z", 0), ("send", "m", 0), ("take", "a", 0)])])
        other = Program([("first", [("send", "c", 0), ("close", "b", 0)])])
        for most in (1, 300):
            for function in (parting, alike, table):
                check_error(self, NoLane, {"lane": "m"}, function, ONE, one, other, most=most)
                check_error(self, NoLane, {"lane": "b"}, function, ONE, other, one, most=most)
                check_error(self, NoLane, {"lane": "m"}, function, ONE, one, TAKES[3], most=most)
                check_error(self, NoLane, {"lane": "b"}, function, ONE, TAKES[3], other, most=most)
        for thing in [*STRANGE, [], table(ONE, END, END)]:
            check_error(self, NoLane, {"lane": "m"}, is_table, ONE, one, other, thing)
            check_error(self, NoLane, {"lane": "b"}, is_table, ONE, END, other, thing)
            check_error(self, NoLane, {"lane": "m"}, is_table, ONE, one, END, thing)

    def test_names_ahead_of_a_row_that_parts_them(self):
        sends = Program([("any", [("send", "a", 1)]), ("any", [("take", "x", 0)])])
        for function in (parting, alike, table):
            check_error(self, NoLane, {"lane": "x"}, function, ONE, sends, END)
            check_error(self, NoLane, {"lane": "x"}, function, ONE, END, sends)


class KeptTest(unittest.TestCase):
    def test_the_arguments_stay_and_what_is_returned_is_new(self):
        places = LATE.places()
        for function, one in ((parting, ECHO), (table, LATE)):
            told = function(LANES, one, LATE)
            again = copy.deepcopy(told)
            told.clear()
            self.assertEqual(function(LANES, one, LATE), again)
        found = table(LANES, LATE, LATE)
        kept = copy.deepcopy(found)
        self.assertIs(is_table(LANES, LATE, LATE, found), True)
        self.assertEqual((found, LATE.places()), (kept, places))

    def test_by_turns_over_other_lanes(self):
        narrow, wide = Lanes({"a": 1}), Lanes({"a": 3})
        one, other = TAKES[3], TAKES[2]
        told = [(parting(lanes, one, other), table(lanes, other, one)) for lanes in (narrow, wide, narrow, wide)]
        self.assertEqual(told[:2], told[2:])
        self.assertNotEqual(told[0][1], told[1][1])
        self.assertEqual(table(wide, one, one), table(Lanes({"a": 3}), TAKES[3], Program(one.places())))

    def test_equal_arguments_and_names_in_the_same_order(self):
        def new(deal):
            return deal and (deal[0], NEW[deal[1]])
        for seed in range(60):
            chance = random.Random(seed)
            bare = Bare(chance.choice(BOUNDS))
            one, other = some_servers(chance, bare.bounds)
            row = parting(bare.lanes, Program(one), Program(other), most=10000)
            lanes = Lanes({name: bare.bounds[name] for name in reversed(list(bare.bounds))})
            self.assertEqual(parting(lanes, Program(copy.deepcopy(one)), Program(list(other)), most=10000), row)
            renamed = [Program([(mode, [arm if arm[0] == "else" else (arm[0], NEW[arm[1]], arm[2]) for arm in arms])
                                for mode, arms in server]) for server in (one, other)]
            lanes = Lanes({NEW[name]: bare.bounds[name] for name in bare.bounds})
            told = row and [(tuple(new(deal) for deal in shut), new(arm)) for shut, arm in row]
            self.assertEqual(parting(lanes, *renamed, most=10000), told)
            self.assertEqual(table(lanes, *renamed, most=10000),
                             table(bare.lanes, Program(one), Program(other), most=10000))


if __name__ == "__main__":
    unittest.main()
