"""Rows: what clients do to the lanes, in order."""

from openlanes.kinds import is_word
from openlanes.programs import Program, is_else


def is_deal(lanes, thing):
    """Whether thing is a tuple (word, lane) of one of the four words and one of these lanes."""
    return isinstance(thing, tuple) and len(thing) == 2 and is_word(thing[0]) and thing[1] in lanes


def is_ascending(parts):
    """Whether the parts of a tuple are ascending and all different."""
    return parts == tuple(sorted(set(parts)))


def is_item(lanes, thing):
    """Whether thing is an item over these lanes."""
    if not isinstance(thing, tuple) or len(thing) != 2:
        return False
    shut, arm = thing
    if not isinstance(shut, tuple) or not all([is_deal(lanes, part) for part in shut]):
        return False
    return is_ascending(shut) and (arm is None or is_deal(lanes, arm))


def is_row(lanes, thing):
    """Whether thing, any value, is a row over these lanes."""
    return isinstance(thing, list) and all([is_item(lanes, part) for part in thing])


def row_of(system, steps):
    """The row of a run from the first standing: an item for each step of a client."""
    row = []
    for standing, (who, place, index) in zip(system.run(system.first, steps), steps):
        if who != "":
            arm = system.program(who).arm(place, index)
            row.append((tuple(system.lanes.shut(standing[1])), None if is_else(arm) else arm[:2]))
    return row


def client_of(row):
    """A Program of one client who does the row."""
    last = len(row) + 1
    places = []
    for place, (shut, arm) in enumerate(row):
        arms = [(word, lane, last) for word, lane in shut]
        if arm is None:
            arms.append(("else", place + 1))
        else:
            arms.append((arm[0], arm[1], place + 1))
        places.append(("first", arms))
    return Program([*places, ("first", []), ("first", [])])
