"""[3], [4] and [101]: how lanes, programs, rows, standings and deeds are written and read."""

import copy
import random
import re
import unittest

from openlanes.errors import NoText
from openlanes.lanes import Lanes
from openlanes.notation import (
    read_deed, read_lanes, read_program, read_row, show_deed, show_lanes, show_program, show_row, show_standing,
)
from openlanes.programs import Program
from openlanes.rows import is_row
from openlanes.systems import System
from tests.byhand import some_model, some_places, some_standing
from tests.byrows import BOUNDS, Bare, some_row, some_server
from tests.helpers import check_error

NUMBER, NAME, DEAL = "(?:0|[1-9][0-9]{0,2})", "[a-z]{1,8}", "(?:send|take|ended|close):[a-z]{1,8}"
ARM = f"(?:{DEAL}:{NUMBER}|else:{NUMBER})"
PLACE = f"(?:first|any)(?: {ARM})*"
DEALS = f"(?:-|{DEAL}(?:,{DEAL})*)"
ITEM = f"(?:-|{DEAL})/{DEALS}"
KIND = "(?:\\.server|(?!server(?![a-z]))[a-z]{1,8})"
# What is put into texts, or stands in the place of one of their signs.
SIGNS = " :/,-.|x\n0123459abserv~!AZ_+\"'"


def matches(pattern, text):
    return re.fullmatch(pattern, text) is not None


def rises(parts):
    return all(low < high for low, high in zip(parts, parts[1:]))


def is_lanes_text(text):
    return matches(f"{NAME}:[1-9][0-9]{{0,2}}(?: {NAME}:[1-9][0-9]{{0,2}})*", text) and rises(
        [word.split(":")[0] for word in text.split(" ")])


def is_program_text(text):
    lines = text.split("\n")
    if not all(matches(PLACE, line) for line in lines) or max(line.count("else:") for line in lines) > 1:
        return False
    return all(int(number) < len(lines) for number in re.findall(":([0-9]+)", text))


def is_row_text(text):
    if text == "":
        return True
    if not matches(f"{ITEM}(?: {ITEM})*", text):
        return False
    shuts = [word.split("/")[1] for word in text.split(" ")]
    return all(rises([tuple(deal.split(":")) for deal in shut.split(",")]) for shut in shuts)


def is_deed_text(text):
    return matches(f"step (?:server|{KIND}) {NUMBER} {NUMBER}", text) or matches(f"quit {KIND} {NUMBER}", text)


def some_lanes(chance):
    names = {"".join(chance.choice("abz") for _ in range(chance.choice([1, 2, 8]))) for _ in range(chance.randint(1, 3))}
    return {name: chance.choice([1, 2, 3, 10, 99, 100, 999]) for name in names}


def some_deed(chance):
    who = chance.choice(["a", "user", "server", "serve", "servers", "abcdefgh", "x"])
    numbers = [chance.choice([0, 1, 7, 10, 64, 100, 999]) for _ in range(2)]
    if chance.random() < 0.5:
        return ("step", chance.choice(["", who]), *numbers)
    return ("quit", who, numbers[0])


def digits(chance, many):
    """A number of so many digits, and its digits."""
    text = chance.choice("123456789") + "".join(chance.choice("0123456789") for _ in range(many - 1))
    number = 0
    for digit in text:
        number = number * 10 + int(digit)
    return number, text


class Case(unittest.TestCase):
    def mutants(self, chance, text, many):
        """Texts with one sign put in, left out, or otherwise, or with two neighbours exchanged."""
        for _ in range(many):
            at = chance.randint(0, len(text))
            sign = chance.choice(SIGNS)
            yield text[:at] + sign + text[at:]
            yield text[:at] + text[at + 1:]
            yield text[:at] + sign + text[at + 1:]
            yield text[:at] + text[at:at + 2][::-1] + text[at + 2:]

    def check_texts(self, is_text, read, show, texts):
        """Checks that a text is read just if it is one, and shown again as it was; returns how many were and weren't."""
        told = [0, 0]
        for text in texts:
            if is_text(text):
                self.assertEqual(show(read(text)), text)
                told[1] += 1
            else:
                check_error(self, NoText, {}, read, text)
                told[0] += 1
        return told

    def check_mutants(self, is_text, read, show, values, many):
        told = [0, 0]
        for seed, value in enumerate(values):
            text = show(value)
            self.assertIs(is_text(text), True, text)
            self.assertEqual(read(text), value)
            found = self.check_texts(is_text, read, show, self.mutants(random.Random(seed), text, many))
            told = [a + b for a, b in zip(told, found)]
        self.assertGreater(min(told), 100)


class LanesTest(Case):
    def test_lanes(self):
        self.assertEqual(show_lanes(Lanes({"say": 2, "ask": 1})), "ask:1 say:2")
        self.assertEqual(show_lanes(Lanes({"a": 999, "ab": 10, "b": 3})), "a:999 ab:10 b:3")
        self.assertEqual(read_lanes("ask:1 say:2"), Lanes({"say": 2, "ask": 1}))
        self.assertEqual(read_lanes("a:999"), Lanes({"a": 999}))
        self.assertEqual(read_lanes("a:1").__class__, Lanes)

    def test_great_bounds_are_shown_and_not_read(self):
        self.assertEqual(show_lanes(Lanes({"a": 1000})), "a:1000")
        number, text = digits(random.Random(1), 5000)
        self.assertEqual(show_lanes(Lanes({"a": number, "b": 1})), f"a:{text} b:1")
        for wrong in ("a:1000", "a:9999", f"a:{text}"):
            check_error(self, NoText, {}, read_lanes, wrong)

    def test_texts_that_are_none(self):
        for text in ["", " ", "a", "a:", ":1", "a:0", "a:01", "a:-1", "a:+1", "a:1 ", " a:1", "a:1  b:1", "a:1\nb:1", "a:1\n",
                     "a:1 a:1", "a:1 a:2", "b:1 a:1", "a:1:1", "a 1", "A:1", "abcdefghi:1", "a:1,b:1", "a:x", "a:1x",
                     "a1:1", "1:a", "a:1 b:0", "a:1 b", "a:1 b:1 a:1", "a: 1", "a :1", "a:1_0", "a:0x1", "\n", "~", "any"]:
            check_error(self, NoText, {}, read_lanes, text)

    def test_mutants(self):
        values = [Lanes(some_lanes(random.Random(seed))) for seed in range(60)]
        self.check_mutants(is_lanes_text, read_lanes, show_lanes, values, 30)

    def test_no_bound_of_the_document_is_looked_at(self):
        names = [a + b for a in "abcde" for b in "fghij"]
        lanes = Lanes.level(names, 500)
        self.assertEqual(read_lanes(show_lanes(lanes)), lanes)


class ProgramsTest(Case):
    def test_what_the_document_prints(self):
        program = Program([("first", [("take", "stop", 1), ("else", 0)]), ("any", [])])
        self.assertEqual(show_program(program), "first take:stop:1 else:0\nany")
        self.assertEqual(read_program("first take:stop:1 else:0\nany"), program)

    def test_programs(self):
        self.assertEqual(show_program(Program([("any", [])])), "any")
        self.assertEqual(read_program("first\nany"), Program([("first", []), ("any", [])]))
        self.assertEqual(read_program("any else:0 send:a:0 ended:b:0 close:abcdefgh:0 send:a:0"), Program([
            ("any", [("else", 0), ("send", "a", 0), ("ended", "b", 0), ("close", "abcdefgh", 0), ("send", "a", 0)])]))

    def test_many_places(self):
        program = Program([("any", [("else", 999), ("take", "a", 0)])] * 1000)
        self.assertEqual(read_program(show_program(program)), program)
        program = Program([("any", [("take", "a", 1000)])] * 1001)
        self.assertTrue(show_program(program).startswith("any take:a:1000\nany take:a:1000\n"))
        check_error(self, NoText, {}, read_program, show_program(program))

    def test_texts_that_are_none(self):
        for text in ["", " ", "\n", "any\n", "\nany", "any\n\nany", "any ", " any", "any  else:0", "anyelse:0", "Any",
                     "else:0", "any else:1", "any send:a:1", "any else:0 else:0", "any else:0 send:a:0 else:0",
                     "any else:00", "any else:", "any else", "any else:a:0", "any send:a", "any send:a:", "any send::0",
                     "any send:0", "any sends:a:0", "any send:A:0", "any send:abcdefghi:0", "any send:a:0:0",
                     "any send:a:-1", "any send:a:+0", "any send:a:00", "any send:a:x", "any,send:a:0", "any send:a:0,",
                     "any send:a:0\n ", "first else:1\nany else:2", "any send:a:0/-", "-", "all", "any first", "any any",
                     "any\nsend:a:0", "any send:a:0 ", "any send:a:0\n", "any\tsend:a:0".replace("\t", "  "), "any:0"]:
            check_error(self, NoText, {}, read_program, text)

    def test_mutants(self):
        values = [Program(some_places(random.Random(seed), ["a", "stop"], random.Random(seed).randint(1, 4), 3))
                  for seed in range(80)]
        self.check_mutants(is_program_text, read_program, show_program, values, 30)


class RowsTest(Case):
    def test_what_the_document_prints(self):
        row = [((("send", "ask"), ("take", "ask")), None), ((), ("close", "ask"))]
        self.assertEqual(show_row(row), "-/send:ask,take:ask close:ask/-")
        self.assertEqual(read_row("-/send:ask,take:ask close:ask/-"), row)

    def test_the_empty_row_and_items_with_nothing(self):
        self.assertEqual((show_row([]), read_row("")), ("", []))
        self.assertEqual((show_row([((), None)]), read_row("-/-")), ("-/-", [((), None)]))
        self.assertEqual(read_row("-/- -/-"), [((), None), ((), None)])
        self.assertEqual(read_row("send:a/send:a"), [((("send", "a"),), ("send", "a"))])
        self.assertIsNot(read_row(""), read_row(""))

    def test_the_lanes_are_any_names(self):
        row = read_row("send:zzz/close:a,close:ab,ended:a,take:abcdefgh")
        self.assertEqual(row, [((("close", "a"), ("close", "ab"), ("ended", "a"), ("take", "abcdefgh")), ("send", "zzz"))])
        self.assertIs(is_row(Lanes.level(["a", "ab", "abcdefgh", "zzz"], 1), row), True)

    def test_texts_that_are_none(self):
        for text in [" ", "\n", "-", "/", "-/", "/-", "-/- ", " -/-", "-/-  -/-", "-/-\n-/-", "-/-/-", "send:a", "send:a/",
                     "/send:a", "-/send:a,", "-/,send:a", "-/send:a,,take:a", "-/send:a,-", "-/-,send:a", "-/take:a,send:a",
                     "-/send:a,send:a", "-/send:b,send:a", "send:a,take:a/-", "sends:a/-", "send:A/-", "send:/-",
                     "send:a:0/-", "else:0/-", "-/else:0", "-/else", "else/-", "send:abcdefghi/-", "-/send:a1", "--/-",
                     "-/--", "-/- -", "-,-", "None/-", "send:a/- take:a", "-/send a", "send:a /-", "-/send:ask,take:ask\n"]:
            check_error(self, NoText, {}, read_row, text)

    def test_mutants(self):
        values = []
        for seed in range(80):
            chance = random.Random(seed)
            bare = Bare(chance.choice(BOUNDS))
            values.append(some_row(chance, bare, some_server(chance, bare.bounds), chance.randint(0, 4)))
        self.check_mutants(is_row_text, read_row, show_row, values, 30)

    def test_the_row_stays(self):
        row = [((("send", "a"),), None), ((), ("take", "a"))]
        kept = copy.deepcopy(row)
        text = show_row(row)
        read_row(text).clear()
        self.assertEqual((row, read_row(text)), (kept, kept))


class StandingsTest(Case):
    def test_standings(self):
        self.assertEqual(show_standing((0, ((0, False), (0, False)), (0,))), "0 0 0 | 0")
        self.assertEqual(show_standing((4, ((1, True), (3, False), (0, True)), (2, 0, 210))), "4 1x 3 0x | 2 0 210")

    def test_without_seats(self):
        self.assertEqual(show_standing((1, ((0, True),), ())), "1 0x |")

    def test_counts_of_many_digits(self):
        for many in (1, 3, 4, 9, 10, 18, 19, 900, 4299, 4300, 4301, 5000):
            number, text = digits(random.Random(many), many)
            self.assertEqual(show_standing((0, ((1, False),), (number, 7, number))), f"0 1 | {text} 7 {text}")
        for zeros in (8, 9, 10, 17, 18, 5000):
            self.assertEqual(show_standing((0, ((1, False),), (10**zeros,))), "0 1 | 1" + "0" * zeros)
            self.assertEqual(show_standing((0, ((1, False),), (10**zeros - 1,))), "0 1 | " + "9" * zeros)

    def test_a_standing_above_that_a_system_knows(self):
        system = System(Lanes({"a": 1}), Program([("any", [])]), {"k": Program([("any", [])] * 2)})
        number, text = digits(random.Random(5), 5000)
        standing = system.at(0, ((1, True),), {("k", 1): number})
        self.assertIs(system.is_standing(standing), True)
        self.assertEqual(show_standing(standing), f"0 1x | {text}")

    def test_standings_at_random(self):
        for seed in range(60):
            chance = random.Random(seed)
            place, content, counts = standing = some_standing(chance, some_model(chance), 200)
            words = [str(place), *[f"{count}x" if closed else f"{count}" for count, closed in content], "|"]
            self.assertEqual(show_standing(standing), " ".join(words + [str(count) for count in counts]))


class DeedsTest(Case):
    def test_deeds(self):
        for deed, text in [
            (("step", "", 0, 2), "step server 0 2"), (("step", "user", 1, 0), "step user 1 0"),
            (("quit", "user", 1), "quit user 1"), (("step", "server", 0, 0), "step .server 0 0"),
            (("quit", "server", 3), "quit .server 3"), (("step", "servers", 10, 999), "step servers 10 999"),
            (("quit", "serve", 0), "quit serve 0"), (("step", "step", 0, 0), "step step 0 0"),
            (("quit", "quit", 1), "quit quit 1"),
        ]:
            self.assertEqual(show_deed(deed), text)
            self.assertEqual(repr(read_deed(text)), repr(deed))

    def test_numbers_of_many_digits(self):
        for many in (3, 4, 10, 5000):
            number, text = digits(random.Random(many), many)
            self.assertEqual(show_deed(("step", "", number, 0)), f"step server {text} 0")
            self.assertEqual(show_deed(("step", "k", 0, number)), f"step k 0 {text}")
            self.assertEqual(show_deed(("quit", "server", number)), f"quit .server {text}")
            for line in (f"step server {text} 0", f"step k 0 {text}", f"quit k {text}"):
                if many == 3:
                    self.assertEqual(show_deed(read_deed(line)), line)
                else:
                    check_error(self, NoText, {}, read_deed, line)

    def test_texts_that_are_none(self):
        for text in ["", " ", "\n", "step", "quit", "step server", "step server 0", "step server 0 0 0", "quit user",
                     "quit user 1 0", "quit server 1", "step .user 0 0", "quit .user 0", "step ..server 0 0", "step . 0 0",
                     "step  0 0", "quit  1", "step server 00 0", "step server 0 01", "step server -1 0", "step server +1 0",
                     "step server 0 0 ", " step server 0 0", "step server  0 0", "step server 0 0\n", "step\nserver 0 0",
                     "step Server 0 0", "step abcdefghi 0 0", "step a1 0 0", "Step server 0 0", "stepserver 0 0",
                     "step server a 0", "step server 0 x", "step server 0,0", "quit user one", "quit 1 user", "step 0 0 server",
                     "step server 1000 0", "step server 0 1000", "quit user 1000", "back", "where", "seat user 1", "step - 0 0",
                     "step server 1_0 0", "step '' 0 0", "do step server 0 0", "quit user 1.0", "step .servers 0 0"]:
            check_error(self, NoText, {}, read_deed, text)

    def test_mutants(self):
        values = [some_deed(random.Random(seed)) for seed in range(120)]
        self.check_mutants(is_deed_text, read_deed, show_deed, values, 30)

    def test_texts_of_one_function_for_another_one(self):
        texts = ["", "any", "first\nany", "a:1", "ask:1 say:2", "-/-", "send:a/- -/send:a", "step server 0 0", "quit k 1",
                 "0 0 0 | 0", "0 0 |"]
        for is_text, read, show in [
            (is_lanes_text, read_lanes, show_lanes), (is_program_text, read_program, show_program),
            (is_row_text, read_row, show_row), (is_deed_text, read_deed, show_deed),
        ]:
            self.assertGreater(self.check_texts(is_text, read, show, texts)[1], 1)


if __name__ == "__main__":
    unittest.main()
