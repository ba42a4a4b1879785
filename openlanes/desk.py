"""A desk that answers lines of text about a system."""

from openlanes.book import Book
from openlanes.errors import Full, NoCommand, NoKind, NoSeat, NoText, Nothing, Refused, TooMany, Wrong
from openlanes.notation import read_deed, read_kind, read_number, read_parts, show_deed, show_number, show_standing
from openlanes.stuck import stuck
from openlanes.together import together

LIMIT = 3


def in_lines(texts):
    """The texts, a line each, or a dash if there are none."""
    return "\n".join(texts) if texts else "-"


def answer_to_back(book):
    """Undoes the last deed; the text tells it."""
    return show_deed(book.back())


def answer_to_again(book):
    """Does again the deed that was undone last; the text tells it."""
    return show_deed(book.again())


def answer_to_where(book):
    """The standing."""
    return show_standing(book.standing)


def answer_to_steps(book):
    """The steps that can be made, a line each."""
    return in_lines([show_deed(("step", *step)) for step in book.steps()])


def answer_to_log(book):
    """The number of the deeds."""
    return show_number(len(book))


def answer_to_sticks(book):
    """Whether the server sticks."""
    return "yes" if book.sticks() else "no"


def answer_to_stuck(book):
    """The bare standings in which the server sticks, a line each."""
    system = book.system
    return in_lines([show_standing(system.at(place, content, {})) for place, content in stuck(system)])


def answer_to_seat(book, line):
    """The greatest number of clients together at a seat."""
    _, kind, place = read_parts(line, " ", 3)
    return show_number(together(book.system, read_kind(kind), read_number(place), limit=LIMIT))


ANSWERS = {
    "back": answer_to_back,
    "again": answer_to_again,
    "where": answer_to_where,
    "steps": answer_to_steps,
    "log": answer_to_log,
    "sticks": answer_to_sticks,
    "stuck": answer_to_stuck,
}


def answer(book, line):
    """The text that a Book answers to a line; errors tell what it can't do."""
    if line in ANSWERS:
        act = ANSWERS[line]
        return act(book)
    if line.startswith("seat "):
        return answer_to_seat(book, line)
    return show_standing(book.do(read_deed(line)))


class Desk:
    """A Book of a system, to which one speaks in lines."""

    def __init__(self, system):
        self._book = Book(system)

    def __call__(self, line):
        """The same as say."""
        return self.say(line)

    def say(self, line):
        """Does what the line says; returns the text of the answer."""
        if not isinstance(line, str):
            raise Wrong(0)
        try:
            return answer(self._book, line)
        except TooMany:
            return "too many"
        except NoText:
            raise NoCommand()
        except (Wrong, Full, Refused, Nothing, NoKind, NoSeat):
            return "refused"
