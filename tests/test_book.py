"""[3], [4] and [100]: books."""

import copy
import random
import unittest

from openlanes.book import Book
from openlanes.errors import Full, NoEntry, Nothing, Refused, Shut, TooMany, Wrong
from openlanes.lanes import Lanes
from openlanes.layers import Layers
from openlanes.programs import Program
from openlanes.stuck import stuck
from openlanes.systems import System
from tests.byhand import Model, some_model, some_wished
from tests.helpers import STRANGE, check_error, check_most, deep, greatest
from tests.samples import ALONE, JOBS, PAIRS, WAITING, jobs
from tests.test_stuck import free_spots

SEND, TAKE = ("step", "user", 0, 0), ("step", "", 0, 1)
STOP, QUIT = ("step", "user", 1, 0), ("quit", "user", 1)
END = Program([("any", [])])


def filled(many=200):
    """A Book with so many deeds."""
    book = Book(jobs())
    for k in range(many):
        book.do((SEND, TAKE)[k % 2])
    return book


def seen(book):
    """What a Book shows of its state, what can be done again too."""
    return (book.standing, book.log(), len(book), book.steps(), undone(book))


def undone(book):
    """The deeds that can be done again, in their order."""
    other, found = book.copied(), []
    while True:
        try:
            found.append(other.again())
        except Nothing:
            return found


class ByHand:
    """A Book as the document describes it, over a Model."""

    def __init__(self, model):
        self.model = model
        self.log = []
        self.undone = []

    def standing(self, many=None):
        now = (0, self.model.contents()[0], (0,) * len(self.model.seats))
        for deed in self.log[:many]:
            now = self.behind(now, deed)
        return now

    def behind(self, now, deed):
        """The standing behind a deed, or None."""
        if deed[0] == "step":
            return dict(self.model.steps(now)).get(deed[1:])
        spot = self.model.seats.index(deed[1:])
        if now[2][spot] == 0:
            return None
        return (*now[:2], tuple(n - (k == spot) for k, n in enumerate(now[2])))


def some_deed(chance, hand):
    """A deed that can be done, most times."""
    now, model = hand.standing(), hand.model
    deeds = [("step", *step) for step, _ in model.steps(now)]
    deeds += [("quit", *seat) for seat, count in zip(model.seats, now[2]) if count and chance.random() < 0.4]
    if not deeds or chance.random() < 0.2:
        whos = ["", "nobody", *model.kinds]
        deeds = [("step", chance.choice(whos), chance.randrange(4), chance.randrange(4))]
        deeds += [("quit", *seat) for seat in model.seats]
    return chance.choice(deeds)


class DoTest(unittest.TestCase):
    def test_a_book_at_first(self):
        system = jobs()
        book = Book(system)
        self.assertEqual((book.system, book.standing, book.log(), len(book)), (system, system.first, [], 0))
        self.assertEqual(book.steps(), system.steps(system.first))
        self.assertEqual((Book.MOST, book.MOST, Book.MOST.__class__), (200, 200, int))

    def test_deeds(self):
        book = Book(jobs())
        full, both = ((1, False), (0, False)), ((1, False), (1, False))
        self.assertEqual(book.do(SEND), (0, full, (1,)))
        self.assertEqual(book.do(STOP), (0, both, (0,)))
        check_error(self, Refused, {"what": QUIT}, book.do, QUIT)
        self.assertEqual(book.do(("step", "", 0, 0)), (1, full, (0,)))
        self.assertEqual(book.standing, (1, full, (0,)))
        self.assertEqual(book.log(), [SEND, STOP, ("step", "", 0, 0)])
        self.assertEqual(book.steps(), [])

    def test_a_client_gives_up(self):
        book = Book(PAIRS.made())
        for _ in range(3):
            book.do(("step", "k", 0, 0))
        self.assertEqual(book.do(("quit", "k", 1)), (0, ((0, False), (0, False)), (2, 0, 0)))
        self.assertEqual(book.do(("quit", "k", 1)), (0, ((0, False), (0, False)), (1, 0, 0)))
        for deed in (("quit", "k", 2), ("quit", "l", 1)):
            check_error(self, Refused, {"what": deed}, book.do, deed)
        self.assertEqual(len(book), 5)

    def test_books_at_random(self):
        told = {name: 0 for name in ("do", "quit", "refused", "back", "again", "nothing")}
        for seed in range(60):
            chance = random.Random(seed)
            model = chance.choice([some_model(chance), JOBS, WAITING, PAIRS, ALONE])
            system, hand = model.made(), ByHand(model)
            book = Book(system)
            for _ in range(40):
                self.act(chance, book, hand, told)
                self.assertEqual((book.log(), len(book)), (hand.log, len(hand.log)))
                self.assertEqual(book.standing, hand.standing())
                self.assertEqual(book.steps(), [step for step, _ in model.steps(hand.standing())])
                self.assertEqual(undone(book), hand.undone[::-1])
            self.assertEqual(book.system, system)
        self.assertGreater(min(told.values()), 50)

    def act(self, chance, book, hand, told):
        """Does something with both."""
        what = chance.choice(["do", "do", "do", "back", "again"])
        if what == "do":
            deed = some_deed(chance, hand)
            behind = hand.behind(hand.standing(), deed)
            if behind is None:
                told["refused"] += 1
                check_error(self, Refused, {"what": deed}, book.do, deed)
            else:
                told["quit" if deed[0] == "quit" else "do"] += 1
                self.assertEqual(repr(book.do(deed)), repr(behind))
                hand.log.append(deed)
                hand.undone.clear()
            return
        rows = (hand.log, hand.undone) if what == "back" else (hand.undone, hand.log)
        if not rows[0]:
            told["nothing"] += 1
            check_error(self, Nothing, {}, getattr(book, what))
        else:
            told[what] += 1
            self.assertEqual(getattr(book, what)(), rows[0][-1])
            rows[1].append(rows[0].pop())

    def test_two_hundred_deeds(self):
        book = filled()
        self.assertEqual(len(book), 200)
        check_error(self, Full, {}, book.do, SEND)
        self.assertEqual(book.standing[2], (100,))
        book.back()
        self.assertEqual(book.again(), TAKE)
        check_error(self, Full, {}, book.do, SEND)
        book.back()
        book.do(TAKE)
        check_error(self, Full, {}, book.do, QUIT)
        self.assertEqual(len(book), 200)

    def test_the_order_of_the_errors(self):
        book = filled()
        before = seen(book)
        check_error(self, Wrong, {"place": 0}, book.do, ("quit", "user", 2))
        check_error(self, Wrong, {"place": 0}, book.do, None)
        check_error(self, Full, {}, book.do, ("step", "nobody", 9, 9))
        book.back()
        check_error(self, Refused, {"what": ("step", "nobody", 9, 9)}, book.do, ("step", "nobody", 9, 9))
        book.again()
        self.assertEqual(seen(book), before)

    def test_what_is_no_deed(self):
        book = Book(jobs())
        book.do(SEND)
        book.do(TAKE)
        book.back()
        before = seen(book)
        bad = [
            [*STRANGE, deep(29), list(STOP), STOP[:3], (*STOP, 0), STOP[1:], "step", ("step",), ("quit", "user")],
            [("step", thing, 0, 0) for thing in STRANGE if not isinstance(thing, str)],
            [("step", "user", thing, 0) for thing in [*STRANGE, [0], (0,), "0", -10**20]],
            [("step", "user", 0, thing) for thing in [*STRANGE, [0], (0,), "0", -10**20]],
            [(thing, "user", 1, 0) for thing in [*STRANGE, "quit", "Step", "step ", ["step"], ("step",), "s", 0]],
            [("quit", thing, 1) for thing in [*STRANGE, ["user"], ("user",), "users", "server", 0]],
            [("quit", "user", thing) for thing in [*STRANGE, 0, 2, 10**20, [1], (1,), "1"]],
            [(thing, "user", 1) for thing in [*STRANGE, "step", "Quit", "quit ", ["quit"], 0]],
            [["quit", "user", 1], ("quit", "user", 1, 0), ("quit", "user", True), QUIT * 2, {"quit": 1}, (0,) * 39000],
        ]
        for thing in [thing for rows in bad for thing in rows]:
            check_error(self, Wrong, {"place": 0}, book.do, thing)
        self.assertEqual(seen(book), before)

    def test_steps_that_can_not_be_made_are_refused(self):
        book = Book(jobs())
        book.do(SEND)
        book.back()
        before = seen(book)
        for deed in [("step", who, place, index) for who in ("", "user", "nobody", "User", "a b", "server", "else", "\n")
                     for place in (0, 1, 2, 10**30) for index in (0, 1, 2, 3, 10**30)]:
            if deed[1:] not in book.steps():
                check_error(self, Refused, {"what": deed}, book.do, deed)
        check_error(self, Refused, {"what": QUIT}, book.do, QUIT)
        with self.assertRaises(Refused) as caught:
            book.do(QUIT)
        self.assertIs(caught.exception.what, QUIT)
        self.assertEqual(seen(book), before)

    def test_wrong_systems(self):
        for thing in [*[thing for thing in STRANGE if not isinstance(thing, System)], deep(29), [], 0, Book(jobs())]:
            check_error(self, Wrong, {"place": 0}, Book, thing)


class BackTest(unittest.TestCase):
    def test_both_ends(self):
        book = Book(jobs())
        check_error(self, Nothing, {}, book.back)
        check_error(self, Nothing, {}, book.again)
        book.do(SEND)
        check_error(self, Nothing, {}, book.again)
        self.assertEqual(book.back(), SEND)
        check_error(self, Nothing, {}, book.back)
        self.assertEqual(book.standing, jobs().first)
        self.assertEqual(book.again(), SEND)
        check_error(self, Nothing, {}, book.again)

    def test_many_deeds_to_and_fro(self):
        book = filled()
        deeds = book.log()
        for k in range(200):
            self.assertEqual(book.back(), deeds[199 - k])
        self.assertEqual(book.standing, jobs().first)
        for k in range(200):
            self.assertEqual(book.again(), deeds[k])
        self.assertEqual((book.log(), book.standing), (deeds, filled().standing))

    def test_again_behind_a_new_deed_and_behind_one_that_is_refused(self):
        book = filled(4)
        book.back()
        book.back()
        check_error(self, Refused, {"what": STOP[:3] + (1,)}, book.do, STOP[:3] + (1,))
        check_error(self, Wrong, {"place": 0}, book.do, None)
        self.assertEqual(undone(book), [SEND, TAKE])
        book.do(STOP)
        check_error(self, Nothing, {}, book.again)
        self.assertEqual(book.log(), [SEND, TAKE, STOP])

    def test_the_same_deed_done_anew(self):
        book = filled(3)
        book.back()
        book.back()
        book.do(TAKE)
        check_error(self, Nothing, {}, book.again)


class UntilTest(unittest.TestCase):
    def test_until(self):
        book = filled(5)
        book.back()
        before = seen(book)
        for many in range(5):
            other = book.until(many)
            self.assertIs(other.__class__, Book)
            self.assertEqual((other.log(), other.system), (book.log()[:many], book.system))
            self.assertEqual(other, filled(many))
            self.assertEqual(other.standing, filled(many).standing)
            check_error(self, Nothing, {}, other.again)
        for many in (5, 6, -1, -5, 10**20, -10**20):
            check_error(self, NoEntry, {"many": many}, book.until, many)
        self.assertEqual(seen(book), before)

    def test_of_a_book_without_deeds(self):
        book = Book(jobs())
        self.assertEqual(book.until(0), book)
        self.assertIsNot(book.until(0), book)
        check_error(self, NoEntry, {"many": 1}, book.until, 1)
        check_error(self, NoEntry, {"many": -1}, book.until, -1)

    def test_until_all_of_a_full_book(self):
        book = filled()
        other = book.until(200)
        self.assertEqual(other, book)
        check_error(self, Full, {}, other.do, SEND)
        check_error(self, NoEntry, {"many": 201}, book.until, 201)
        other.back()
        self.assertEqual((len(other), len(book)), (199, 200))


class CopiedTest(unittest.TestCase):
    def test_the_elder_one_and_the_copy_go_on_apart(self):
        book = filled(6)
        book.back()
        book.back()
        other = book.copied()
        self.assertIsNot(other, book)
        self.assertEqual(seen(other), seen(book))
        kept = seen(book)
        self.assertEqual(other.again(), SEND)
        other.do(STOP)
        self.assertEqual(seen(book), kept)
        kept = seen(other)
        self.assertEqual(book.again(), SEND)
        self.assertEqual(book.again(), TAKE)
        book.do(QUIT)
        self.assertEqual(seen(other), kept)
        self.assertEqual((len(book), len(other)), (7, 6))

    def test_equal(self):
        book = filled(4)
        other = filled(6)
        self.assertIs(book == other, False)
        self.assertIs(book != other, True)
        other.back()
        other.back()
        # What can be done again does not count.
        self.assertIs(book == other, True)
        self.assertIs(book != other, False)
        self.assertIs(Book(jobs()) == Book(JOBS.turned().made()), True)
        self.assertIs(Book(jobs()) == Book(PAIRS.made()), False)
        # The same standing by other deeds.
        one, two = Book(jobs()), Book(jobs())
        one.do(("step", "", 0, 2))
        self.assertEqual(one.standing, two.standing)
        self.assertIs(one == two, False)
        for thing in [*STRANGE, book.log(), book.system, book.standing]:
            if thing.__class__.__name__ != "Same":
                self.assertIs(book == thing, False)
                self.assertIs(book != thing, True)
                self.assertIs(Book(jobs()) == thing, False)


class TrialTest(unittest.TestCase):
    def test_what_is_returned(self):
        book = filled(3)
        for thing in [None, 7, [1], book, (True, "a")]:
            self.assertIs(book.trial(lambda other: thing), thing)
        self.assertIs(book.trial(lambda other: other), book)

    def test_the_state_is_as_it_was(self):
        book = filled(6)
        book.back()
        book.back()
        before = seen(book)

        def act(other):
            other.do(STOP)
            other.back()
            other.do(QUIT)
            for _ in range(4):
                other.back()
            return other.log()

        for _ in range(2):
            self.assertEqual(book.trial(act), [SEND])
            self.assertEqual(seen(book), before)
        self.assertEqual(book.trial(lambda other: [other.again(), other.again(), other.standing]),
                         [SEND, TAKE, filled(6).standing])
        self.assertEqual(seen(book), before)
        self.assertEqual(book.again(), SEND)

    def test_an_error_of_the_package_goes_on(self):
        book = filled(6)
        book.back()
        before = seen(book)

        def act(other):
            other.back()
            other.do(QUIT)
            other.do(("step", "", 7, 7))

        check_error(self, Refused, {"what": ("step", "", 7, 7)}, book.trial, act)
        self.assertEqual(seen(book), before)
        check_error(self, Shut, {"word": "take", "lane": "job"}, book.trial,
                    lambda other: (other.back(), other.system.lanes.done(other.system.first[1], "take", "job")))
        self.assertEqual(seen(book), before)

    def test_another_error_goes_on(self):
        book = filled(6)
        book.back()
        before = seen(book)
        for error in (KeyError, ZeroDivisionError, ValueError, KeyboardInterrupt, StopIteration, RuntimeError):
            told = error("so")

            def act(other, told=told):
                other.back()
                other.do(STOP)
                raise told

            with self.assertRaises(error) as caught:
                book.trial(act)
            self.assertIs(caught.exception, told)
            self.assertEqual(seen(book), before)

    def test_trials_within_trials(self):
        book = filled(4)
        book.back()
        before, inner = seen(book), []

        def act(other):
            other.do(STOP)
            other.back()
            now = seen(other)
            inner.append(other.trial(lambda third: (third.again(), third.do(QUIT) if third.standing[2][0] else None)))
            self.assertEqual(seen(other), now)
            with self.assertRaises(Nothing):
                other.trial(lambda third: [third.back() for _ in range(9)])
            self.assertEqual(seen(other), now)
            return other.trial(lambda third: third.trial(lambda fourth: fourth.back()))

        self.assertEqual(book.trial(act), SEND)
        self.assertEqual(inner[0][0], STOP)
        self.assertEqual(seen(book), before)

    def test_copies_made_in_a_trial_stay(self):
        book = filled(4)

        def act(other):
            other.do(STOP)
            return other.copied(), other.until(2)

        copied, until = book.trial(act)
        self.assertEqual((len(copied), len(until), len(book)), (5, 2, 4))
        copied.do(QUIT)
        self.assertEqual((len(copied), len(book)), (6, 4))


class QueriesTest(unittest.TestCase):
    def books(self, many):
        """Books at random standings, with their Models."""
        for seed in range(many):
            chance = random.Random(seed)
            model = chance.choice([some_model(chance), some_model(chance), JOBS, WAITING, PAIRS, ALONE])
            hand, book = ByHand(model), Book(model.made())
            for _ in range(chance.choice([0, 2, 6])):
                deed = some_deed(chance, hand)
                if hand.behind(hand.standing(), deed):
                    hand.log.append(deed)
                    book.do(deed)
            yield chance, model, book

    def test_way(self):
        told = []
        for chance, model, book in self.books(90):
            wished = some_wished(chance, model)
            steps = book.way(wished)
            fewest = Layers(book.system, wished).rank(book.standing)
            self.assertEqual(None if steps is None else len(steps), fewest)
            if steps is not None:
                self.assertEqual(model.fewest(book.standing, wished, min(fewest, 3)), fewest if fewest <= 3 else None)
                last = book.system.run(book.standing, steps)[-1]
                self.assertTrue(any(book.system.is_above(last, wish) for wish in wished))
            told.append(fewest)
        self.assertGreater(told.count(None), 10)
        self.assertGreater(len([k for k in told if k and k > 1]), 10)

    def test_way_of_few_steps(self):
        book = filled(3)
        self.assertEqual(book.way([]), None)
        self.assertEqual(book.way([book.standing]), [])
        self.assertEqual(book.way([(0, book.standing[1], (1,))]), [])
        self.assertEqual(book.way([(0, book.standing[1], (3,))]), [("", 0, 1), ("user", 0, 0)])
        book.do(STOP)
        book.do(("step", "", 0, 0))
        self.assertIsNone(book.way([jobs().first]))
        full = filled(200)
        self.assertEqual(full.way([(0, full.standing[1], (100,))]), [])

    def test_way_raises_what_layers_raises(self):
        for chance, model, book in self.books(25):
            wished = some_wished(chance, model)
            check_most(self, greatest(book.system, wished), book.way, wished)

    def test_sticks(self):
        told = []
        for _, model, book in self.books(150):
            place, content = book.standing[:2]
            sticks = book.sticks()
            fewest = Layers(book.system, free_spots(model), held=True).rank(book.standing)
            self.assertIs(sticks, fewest is None and bool(model.server[place][1]))
            # With clients at seats it may go on where it would stick without them, but not the contrary.
            if sticks:
                self.assertIn((place, content), stuck(book.system))
            told.append(sticks)
        self.assertGreater(min(told.count(True), told.count(False)), 10)

    def test_a_client_at_a_seat_frees_the_server(self):
        model = Model({"a": 1, "b": 1}, [("any", (("take", "a", 0),))], {"k": [
            ("first", (("close", "b", 1), ("else", 2))), ("any", (("send", "a", 2),)), ("any", ())]})
        book = Book(model.made())
        self.assertIs(book.sticks(), False)
        book.do(("step", "k", 0, 0))
        self.assertIs(book.sticks(), False)
        book.do(("quit", "k", 1))
        self.assertIs(book.sticks(), True)

    def test_a_place_without_arms(self):
        book = Book(System(Lanes({"a": 1}), Program([("any", [("take", "a", 1)]), ("any", [])]), {}))
        self.assertIs(book.sticks(), True)
        ended = Book(System(Lanes({"a": 3, "b": 3}), END, {"k": Program([("any", [("send", "a", 0)])])}))
        self.assertIs(ended.sticks(most=1), False)
        # At a place with arms the layers are looked at, at one without arms they are not.
        model = Model({"a": 1}, [("any", (("send", "a", 1), ("close", "a", 1))), ("any", ())], {})
        book = Book(model.made())
        self.assertIs(book.sticks(most=2), False)
        check_error(self, TooMany, {"most": 1}, book.sticks, most=1)
        book.do(("step", "", 0, 0))
        self.assertIs(book.sticks(most=1), False)

    def test_sticks_raises_what_layers_raises_with_held(self):
        for _, model, book in self.books(40):
            if model.server[book.standing[0]][1]:
                check_most(self, greatest(book.system, free_spots(model), held=True), book.sticks)
            else:
                self.assertIs(book.sticks(most=1), False)

    def test_queries_change_nothing(self):
        for chance, model, book in self.books(15):
            wished = some_wished(chance, model)
            kept = copy.deepcopy(wished)
            before = seen(book)
            first = (book.way(wished), book.sticks(), book.steps(), book.log())
            for part in first:
                if part.__class__ is list:
                    part.append(None)
            again = (book.way(wished), book.sticks(), book.steps(), book.log())
            self.assertEqual([part[:-1] if part.__class__ is list else part for part in first], list(again))
            self.assertEqual((seen(book), wished), (before, kept))

    def test_two_books_by_turns(self):
        system = jobs()
        one, two = Book(system), Book(system)
        one.do(SEND)
        self.assertEqual((len(one), len(two), two.standing), (1, 0, system.first))
        two.do(("step", "", 0, 2))
        one.back()
        self.assertEqual((one.log(), two.log()), ([], [("step", "", 0, 2)]))
        self.assertEqual(system, jobs())


if __name__ == "__main__":
    unittest.main()
