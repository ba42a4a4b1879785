"""Which rows a server can follow."""

from openlanes.effects import Effects
from openlanes.moves import check_lanes
from openlanes.walks import Walks


def behind_item(effects, standings, item):
    """The dict from the standings (place, content) behind the item to the one of standings where it was done."""
    behinds = {effects.content_of(ahead): effects.content_of(behind) for ahead, behind in effects.moves(item)}
    found = {}
    for place, content in standings:
        if content in behinds:
            found.setdefault((place, behinds[content]), (place, content))
    return found


def stages(lanes, server, row):
    """The list of tuples (starts, reached), one ahead of each item and one behind the last one.

    starts tells what behind_item tells of the item ahead; reached tells what Walks tells of the steps behind it.
    """
    check_lanes(lanes, [server])
    walks = Walks(lanes, server)
    effects = Effects(lanes)
    starts = {(0, lanes.first): None}
    found = [(starts, walks.reached(starts))]
    for item in row:
        starts = behind_item(effects, found[-1][1], item)
        found.append((starts, walks.reached(starts)))
    return found


def follows(lanes, server, row):
    """Whether the server follows the row."""
    return len(stages(lanes, server, row)[-1][1]) > 0


def following(lanes, server, row):
    """The list of the lists of the indexes of the arms that the server takes ahead of each item, or None."""
    found = stages(lanes, server, row)
    if not found[-1][1]:
        return None
    told = []
    standing = sorted(found[-1][0])[0]
    for place in reversed(range(len(row))):
        # The way is told from its end: from the standing behind the item to the start of the stage ahead of it.
        standing = found[place + 1][0][standing]
        indexes = []
        while found[place][1][standing] is not None:
            standing, index = found[place][1][standing]
            indexes.append(index)
        told.append(indexes[::-1])
    return told[::-1]


def standings_behind(lanes, server, row):
    """The ascending list of the tuples (place, content) in which the server can be behind the row."""
    return sorted(stages(lanes, server, row)[-1][1])
