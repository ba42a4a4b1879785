"""[3], [4] and [102]: a desk that answers lines."""

import random
import unittest

from openlanes.book import Book
from openlanes.desk import Desk
from openlanes.errors import Full, NoCommand, NoKind, NoSeat, Nothing, NoText, Refused, TooMany, Wrong
from openlanes.lanes import Lanes
from openlanes.notation import read_deed, read_program, show_deed, show_standing
from openlanes.programs import Program
from openlanes.stuck import stuck
from openlanes.systems import System
from openlanes.together import together
from tests.byhand import Model, some_model
from tests.helpers import STRANGE, check_error, deep
from tests.samples import ALONE, JOBS, PAIRS, WAITING, jobs
from tests.test_book import ByHand
from tests.test_book import some_deed as some_book_deed

PLAIN = Model({"job": 1, "stop": 1}, [("any", (("take", "job", 1),))] * 2, {"one": [("any", (("send", "stop", 0),))]})
END = [("any", ())]
# A kind of the name that is written for the server, too.
SERVERS = Model({"a": 1}, [("any", (("take", "a", 0),))],
                {"server": [("any", (("send", "a", 1),)), ("any", (("else", 0),))], "user": [("any", (("else", 1),)), END[0]]})
WORDS = ["back", "again", "where", "steps", "log", "sticks", "stuck"]


# A system in which it is too much to find out what is stuck, and one in which it is that for a seat.
WIDE = [
    ("any take:a:1\nany take:b:1\nany take:a:1",
     "first send:c:1 take:a:2\nfirst take:c:0 send:c:3\nfirst take:c:0\nfirst close:a:0\nfirst take:c:0",
     "any send:c:1\nany close:c:0\nfirst close:a:1 take:c:2\nfirst send:a:0 take:b:3\nany send:a:0 send:b:4"),
    ("first send:a:4 else:1 take:a:2\nany close:c:1 close:a:1 send:c:3\nfirst\nfirst take:c:0 take:b:4\n"
     "first send:a:2 send:b:4 close:a:1",
     "any\nfirst\nany take:b:3\nany send:a:0 take:a:3",
     "first send:c:2\nany ended:a:2 take:c:1\nany take:c:2\nfirst take:b:2 take:c:3 else:1"),
]


def answer_by_hand(book, line):
    """What a Book of the same system says to a line, or None for a line that is no command."""
    words = line.split(" ")
    try:
        if line in ("back", "again"):
            return show_deed(book.back() if line == "back" else book.again())
        if line == "where":
            return show_standing(book.standing)
        if line == "steps":
            return "\n".join(show_deed(("step", *step)) for step in book.steps()) or "-"
        if line == "log":
            return str(len(book.log()))
        if line == "sticks":
            return {True: "yes", False: "no"}[book.sticks()]
        if line == "stuck":
            spots = stuck(book.system)
            return "\n".join(show_standing(book.system.at(*spot, {})) for spot in spots) or "-"
        if words[0] == "seat":
            # What stands behind the word is written as in a quit.
            deed = read_deed("quit " + line[5:])
            return str(together(book.system, deed[1], deed[2], limit=3))
        return show_standing(book.do(read_deed(line)))
    except NoText:
        return None
    except TooMany:
        return "too many"
    except (Wrong, Full, Refused, Nothing, NoKind, NoSeat):
        return "refused"


def some_line(chance, hand):
    roll = chance.random()
    if roll < 0.55:
        return show_deed(some_book_deed(chance, hand))
    if roll < 0.9:
        return chance.choice(WORDS)
    if roll < 0.95:
        kind = chance.choice(["k", "l", "user", "guest", "nobody", "server", ".server", "A", ""])
        return f"seat {kind} {chance.choice([0, 1, 2, 3, '01', 1000, ''])}"
    return chance.choice(["", " ", "Back", "back ", "where\n", "steps 0", "do", "seat", "quit", "log 1", "stuck -", "step 0 0"])


class AgainstABookTest(unittest.TestCase):
    def compare(self, desk, book, line):
        """Says the line to the Desk, by one of its names, and compares with what the Book says; returns the answer."""
        told = answer_by_hand(book, line)
        say = desk if len(book) % 2 else desk.say
        if told is None:
            check_error(self, NoCommand, {}, say, line)
        else:
            self.assertEqual(say(line), told)
        self.assertEqual(desk("where"), show_standing(book.standing))
        self.assertEqual(desk("log"), str(len(book)))
        return told

    def test_lines_at_random(self):
        told = []
        for seed in range(90):
            chance = random.Random(seed)
            model = chance.choice([some_model(chance), JOBS, WAITING, PAIRS, ALONE, SERVERS, PLAIN])
            desk, book, hand = Desk(model.made()), Book(model.made()), ByHand(model)
            for _ in range(30):
                told.append(self.compare(desk, book, some_line(chance, hand)))
                hand.log = book.log()
        self.assertGreater(min(told.count(None), told.count("refused"), told.count("yes"), told.count("no")), 20)
        self.assertGreater(len(set(told)), 150)

    def test_two_desks_by_turns(self):
        models = [JOBS, PAIRS, JOBS]
        desks, books = [Desk(model.made()) for model in models], [Book(model.made()) for model in models]
        hands = [ByHand(model) for model in models]
        chance = random.Random(7)
        for _ in range(150):
            k = chance.randrange(3)
            self.compare(desks[k], books[k], some_line(chance, hands[k]))
            hands[k].log = books[k].log()


class LinesTest(unittest.TestCase):
    def test_a_talk(self):
        desk = Desk(jobs())
        for line, told in [
            ("where", "0 0 0 | 0"), ("log", "0"), ("steps", "step server 0 2\nstep user 0 0"), ("sticks", "no"),
            ("stuck", "-"), ("back", "refused"), ("again", "refused"), ("step user 0 0", "0 1 0 | 1"), ("log", "1"),
            ("step user 0 0", "refused"), ("step user 1 0", "0 1 1 | 0"), ("quit user 1", "refused"),
            ("back", "step user 1 0"), ("quit user 1", "0 1 0 | 0"), ("again", "refused"), ("log", "2"),
            ("back", "quit user 1"), ("where", "0 1 0 | 1"), ("again", "quit user 1"), ("where", "0 1 0 | 0"),
            ("step server 0 1", "0 0 0 | 0"), ("seat user 1", "3"), ("seat user 0", "refused"), ("seat user 2", "refused"),
            ("seat nobody 1", "refused"), ("quit nobody 1", "refused"), ("quit user 0", "refused"),
            ("quit user 2", "refused"), ("quit user 999", "refused"), ("step nobody 0 0", "refused"),
            ("step server 999 0", "refused"), ("step server 0 999", "refused"), ("seat user 999", "refused"), ("log", "3"),
        ]:
            self.assertEqual(desk.say(line), told, line)

    def test_a_call_does_the_same(self):
        desk = Desk(jobs())
        self.assertEqual(desk("step user 0 0"), "0 1 0 | 1")
        self.assertEqual((desk.say("where"), desk("where"), desk("back")), ("0 1 0 | 1", "0 1 0 | 1", "step user 0 0"))
        self.assertEqual(desk("again"), "step user 0 0")

    def test_where_nothing_can_be_done(self):
        desk = Desk(System(Lanes({"a": 1}), Program(END), {}))
        self.assertEqual([desk(line) for line in WORDS], ["refused", "refused", "0 0 |", "-", "0", "no", "-"])

    def test_stuck_and_sticks(self):
        desk = Desk(PLAIN.made())
        self.assertEqual(desk("stuck"), "0 0 0 |\n0 0 1 |")
        self.assertEqual(desk("sticks"), "yes")
        closing = Model({"a": 1}, [("any", (("take", "a", 0),))], {"k": [("any", (("close", "a", 1),)), END[0]]})
        self.assertEqual(Desk(closing.made())("stuck"), "0 0 | 0\n0 0x | 0")

    def test_the_kind_server(self):
        desk = Desk(SERVERS.made())
        self.assertEqual(desk("steps"), "step .server 0 0\nstep user 0 0")
        self.assertEqual(desk("step .server 0 0"), "0 1 | 1 0")
        self.assertEqual(desk("steps"), "step server 0 0\nstep .server 1 0\nstep user 0 0")
        self.assertEqual(desk("step server 0 0"), "0 0 | 1 0")
        self.assertEqual(desk("quit .server 1"), "0 0 | 0 0")
        self.assertEqual((desk("back"), desk("back"), desk("back")), ("quit .server 1", "step server 0 0", "step .server 0 0"))
        self.assertEqual(desk("seat .server 1"), "3")
        self.assertEqual(desk("seat .server 2"), "refused")
        for line in ("seat server 1", "quit server 1", "quit .user 1", "seat .user 1", "step ..server 0 0"):
            check_error(self, NoCommand, {}, desk, line)
        # Where there is no such kind, it is one that is not there.
        other = Desk(jobs())
        self.assertEqual([other(line) for line in ("seat .server 1", "quit .server 1", "step .server 0 0")], ["refused"] * 3)
        check_error(self, NoCommand, {}, other, "seat server 1")

    def test_a_full_log(self):
        desk = Desk(jobs())
        for k in range(100):
            self.assertEqual(desk("step user 0 0"), f"0 1 0 | {k + 1}")
            self.assertEqual(desk("step server 0 1"), f"0 0 0 | {k + 1}")
        for line in ("step user 0 0", "quit user 1", "step nobody 0 0", "quit user 7"):
            self.assertEqual(desk(line), "refused")
        self.assertEqual((desk("log"), desk("where")), ("200", "0 0 0 | 100"))
        self.assertEqual((desk("back"), desk("step user 0 0"), desk("quit user 1")), ("step server 0 1", "refused", "0 1 0 | 99"))

    def test_seats_of_few_clients(self):
        alone = Model({"a": 1}, END, {"k": [("any", (("send", "a", 1),)), END[0]], "l": END})
        self.assertEqual(Desk(alone.made())("seat k 1"), "1")
        nobody = Model({"a": 1}, END, {"k": [("any", (("take", "a", 1),)), END[0]]})
        self.assertEqual(Desk(nobody.made())("seat k 1"), "0")


class ErrorsTest(unittest.TestCase):
    def test_wrong_systems(self):
        for thing in [*[thing for thing in STRANGE if not isinstance(thing, System)], deep(29), [], 0, Book(jobs())]:
            check_error(self, Wrong, {"place": 0}, Desk, thing)

    def test_what_is_no_string(self):
        desk = Desk(jobs())
        desk("step user 0 0")
        for thing in [*[thing for thing in STRANGE if not isinstance(thing, str)], deep(29), 0, ["back"], b"back", ("back",)]:
            check_error(self, Wrong, {"place": 0}, desk.say, thing)
            check_error(self, Wrong, {"place": 0}, desk, thing)
        self.assertEqual((desk("log"), desk("back")), ("1", "step user 0 0"))

    def test_lines_that_are_no_commands(self):
        desk = Desk(jobs())
        desk("step user 0 0")
        desk("step server 0 1")
        desk("back")
        texts = ["", " ", "  ", "\n", "-", "~", "help", "a" * 39000, "\x00", "\u00e9", "\u0661", "step user 0 \u0661",
                 "\u200b", "step\tuser\t0\t0", "step user 0 0\r", "seat", "seat user", "seat user 1 1", "seat  1", "seat user ",
                 "seat user one", "seat user 01", "seat user 1000", "seat user -1", "seat User 1", "seat abcdefghi 1",
                 "seatuser 1", "seats user 1", "seat user 1\n", "quit user 1000", "quit user 01", "quit user -1",
                 "step user 0 1000", "step user 00 0", "step user +0 0", "step user 0", "quit user", "until 0", "do", "trial",
                 "copied", "way", "\ud800", "step \u017ferver 0 0", "back\x0b"]
        for word in WORDS:
            texts += [word.upper(), word + " ", " " + word, word + "\n", "\n" + word, word[:-1], word + word, word + " 0"]
        for text in texts:
            check_error(self, NoCommand, {}, desk.say, text)
            check_error(self, NoCommand, {}, desk, text)
        self.assertEqual((desk("log"), desk("again"), desk("log")), ("1", "step server 0 1", "2"))

    def test_too_many(self):
        for (server, one, other), line in zip(WIDE, ("stuck", "seat l 2")):
            kinds = {"k": read_program(one), "l": read_program(other)}
            system = System(Lanes({"a": 1, "b": 1, "c": 1}), read_program(server), kinds)
            desk, book = Desk(system), Book(system)
            first = "step l 0 0"
            where = desk(first)
            desk("back")
            for _ in range(2):
                self.assertEqual(desk(line), "too many")
                self.assertEqual(answer_by_hand(book, line), "too many")
                self.assertEqual((desk("log"), desk("again"), desk("where")), ("0", first, where))
                self.assertEqual(desk("back"), first)

    def test_refused_lines_change_nothing(self):
        desk = Desk(jobs())
        desk("step user 0 0")
        desk("step server 0 1")
        desk("back")
        for line in ("step user 0 0", "step nobody 0 0", "quit nobody 1", "quit user 5", "seat user 5", "seat nobody 1"):
            self.assertEqual(desk(line), "refused")
            self.assertEqual((desk("log"), desk("where")), ("1", "0 1 0 | 1"))
        self.assertEqual((desk("again"), desk("again")), ("step server 0 1", "refused"))
        desk("back")
        desk("back")
        self.assertEqual((desk("back"), desk("again"), desk("again")), ("refused", "step user 0 0", "step server 0 1"))


if __name__ == "__main__":
    unittest.main()
