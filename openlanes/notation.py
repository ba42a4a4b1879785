"""How lanes, programs, rows, standings and deeds are written, and read but for standings."""

from openlanes.errors import NoPlace, NoText, TwoElse
from openlanes.kinds import is_mode, is_name, is_word
from openlanes.lanes import Lanes
from openlanes.programs import Program
from openlanes.rows import is_ascending

DIGITS = "0123456789"
# Python writes no number of more than some thousand digits at once: a part of so many is always fine.
PART_DIGITS = 9
PART = 1000000000
READ_DIGITS = 3


def show_number(number):
    """The decimal digits of a number of any size."""
    parts = []
    while number >= PART:
        number, part = divmod(number, PART)
        parts.append(str(part).zfill(PART_DIGITS))
    parts.append(str(number))
    return "".join(reversed(parts))


def read_number(word):
    """The number that a word of at most three digits writes."""
    if not 1 <= len(word) <= READ_DIGITS or not all([letter in DIGITS for letter in word]):
        raise NoText()
    if word[0] == "0" and word != "0":
        raise NoText()
    return int(word)


def read_name(word):
    """The name that a word writes."""
    if not is_name(word):
        raise NoText()
    return word


def read_parts(word, sign, many):
    """The list of the parts of a word, so many, between which the sign stands."""
    parts = word.split(sign)
    if len(parts) != many:
        raise NoText()
    return parts


def show_lanes(lanes):
    """A line with the names and bounds of the lanes."""
    return " ".join([f"{name}:{show_number(lanes.bound(name))}" for name in lanes.names])


def read_lanes(text):
    """The Lanes that a line writes."""
    bounds = {}
    for word in text.split(" "):
        name, digits = read_parts(word, ":", 2)
        bounds[read_name(name)] = read_number(digits)
    if 0 in list(bounds.values()):
        raise NoText()
    lanes = Lanes(bounds)
    # A name that stands twice, or ahead of a lesser one, shows in this way only.
    if show_lanes(lanes) != text:
        raise NoText()
    return lanes


def show_arm(arm):
    """The word for an arm of a program."""
    return ":".join([*arm[:-1], show_number(arm[-1])])


def read_arm(word):
    """The arm of a program that a word writes."""
    parts = word.split(":")
    if len(parts) == 2 and parts[0] == "else":
        return ("else", read_number(parts[1]))
    if len(parts) != 3 or not is_word(parts[0]):
        raise NoText()
    return (parts[0], read_name(parts[1]), read_number(parts[2]))


def show_program(program):
    """A line for each place of a program."""
    return "\n".join([" ".join([mode, *[show_arm(arm) for arm in arms]]) for mode, arms in program.places()])


def read_place(line):
    """The tuple (mode, arms) of a place that a line writes."""
    mode, *words = line.split(" ")
    if not is_mode(mode):
        raise NoText()
    return (mode, [read_arm(word) for word in words])


def read_program(text):
    """The Program that lines write."""
    places = [read_place(line) for line in text.split("\n")]
    try:
        return Program(places)
    except (NoPlace, TwoElse):
        raise NoText()


def show_deals(deals):
    """The tuples (word, lane), joined by commas, or a dash if there are none."""
    if not deals:
        return "-"
    return ",".join([":".join(deal) for deal in deals])


def read_deals(text):
    """The tuple of the tuples (word, lane) that a text writes."""
    if text == "-":
        return ()
    deals = [read_parts(part, ":", 2) for part in text.split(",")]
    if not all([is_word(word) for word, _ in deals]):
        raise NoText()
    return tuple([(word, read_name(lane)) for word, lane in deals])


def show_item(item):
    """The word for an item of a row."""
    shut, arm = item
    taken = () if arm is None else (arm,)
    return f"{show_deals(taken)}/{show_deals(shut)}"


def show_row(row):
    """A line with a word for each item of a row."""
    return " ".join([show_item(item) for item in row])


def read_item(word):
    """The item that a word writes."""
    taken, closed = read_parts(word, "/", 2)
    arms = read_deals(taken)
    shut = read_deals(closed)
    if len(arms) > 1 or not is_ascending(shut):
        raise NoText()
    return (shut, arms[0] if arms else None)


def read_row(text):
    """The row that a line writes, over any lanes."""
    if text == "":
        return []
    return [read_item(word) for word in text.split(" ")]


def show_standing(standing):
    """A line with the numbers of a standing."""
    place, content, counts = standing
    states = [show_number(count) + ("x" if closed else "") for count, closed in content]
    return " ".join([show_number(place), *states, "|", *[show_number(count) for count in counts]])


def show_kind(kind):
    """The word for a kind; the word that is written for the server is left to it."""
    return ".server" if kind == "server" else kind


def read_kind(word):
    """The kind that a word writes."""
    if word == ".server":
        return "server"
    if word == "server":
        raise NoText()
    return read_name(word)


def show_deed(deed):
    """A line with the parts of a deed."""
    who = "server" if deed[1] == "" else show_kind(deed[1])
    return " ".join([deed[0], who, *[show_number(number) for number in deed[2:]]])


def read_deed(text):
    """The deed that a line writes."""
    words = text.split(" ")
    if len(words) == 4 and words[0] == "step":
        who = "" if words[1] == "server" else read_kind(words[1])
        return ("step", who, read_number(words[2]), read_number(words[3]))
    if len(words) == 3 and words[0] == "quit":
        return ("quit", read_kind(words[1]), read_number(words[2]))
    raise NoText()
