"""Rounds by which an arm of the server is passed over for ever while it is open each time."""

from openlanes.backs import Backs, arms_into
from openlanes.growth import Growth
from openlanes.moves import open_arms
from openlanes.packing import packing_for
from openlanes.reach import Reach
from openlanes.states import replaced


class Passing:
    """Whether the server passes over the arm with this index of its place."""

    def __init__(self, system, place, index):
        self._lanes = system.lanes
        self._arms = system.server.arms(place)
        self._home = place
        self._index = index

    def has_open(self, content):
        """Whether the arm is open, if the place may take it or not."""
        return self._index in open_arms(self._lanes, self._arms, content)

    def keeps(self, place, index, content):
        """Whether the server's step of this place and index, made at this content, keeps to the rule of a round."""
        return place != self._home or (index != self._index and self.has_open(content))


class RoundBacks:
    """The steps that lead into spots (place, content, moved) of a round, where moved tells that the server has moved.

    The ways into a spot are told as Backs tells them; what was found out once is kept.
    """

    def __init__(self, system, place, index):
        self._system = system
        self._passing = Passing(system, place, index)
        self._backs = Backs(system, True, system.seats)
        self._servers = {}
        self._ways = {}

    def into(self, spot):
        """The list of the ways into a spot, one for each effect."""
        if spot not in self._ways:
            place, content, moved = spot
            found = []
            for (_, ahead), start, goal, step in self._backs.into((place, content)):
                found.append(((place, ahead, moved), start, goal, step))
            if moved:
                found.extend(self._moves_into(place, content))
            self._ways[spot] = found
        return self._ways[spot]

    def _moves_into(self, goal, content):
        """The list of the ways by a step of the server to its place goal at the content."""
        ways = {}
        for place, index, to, ahead in self._taken_into(content):
            if to == goal and self._passing.keeps(place, index, ahead):
                for moved in (False, True):
                    ways.setdefault((place, ahead, moved), ("", place, index))
        return [(former, None, None, ways[former]) for former in ways]

    def _taken_into(self, content):
        """What arms_into tells of the server."""
        if content not in self._servers:
            self._servers[content] = arms_into(self._system.lanes, self._system.server, content)
        return self._servers[content]


def shortest_round(system, backs, standing, most):
    """A shortest round from the standing, or None; backs tells the steps of rounds."""
    place, content, counts = standing
    packing = packing_for(system.seats, [standing])
    growth = Growth(packing, backs)
    growth.grow({(place, content, True): [packing.pack(counts)]}, most)
    return growth.steps_from((place, content, False), counts)


def is_round(system, standing, index, thing):
    """Whether thing, any value, is a round from the standing for the arm of this index."""
    place = standing[0]
    system.server.arm(place, index)
    passing = Passing(system, place, index)
    if not passing.has_open(standing[1]) or not system.is_run(standing, thing):
        return False
    way = system.run(standing, thing)
    moves = [(spot[1], step) for spot, step in zip(way, thing) if step[0] == ""]
    if not moves or not system.is_above(way[-1], standing):
        return False
    return all([passing.keeps(step[1], step[2], content) for content, step in moves])


def round_from(system, standing, index, *, most=2000):
    """A shortest round from the standing for the arm of this index, or None."""
    place = standing[0]
    system.server.arm(place, index)
    if not Passing(system, place, index).has_open(standing[1]):
        return None
    return shortest_round(system, RoundBacks(system, place, index), standing, most)


def spread(many, seats):
    """The ascending list of the tuples with a count for each seat that make so many together."""
    found = [(0,) * seats]
    for _ in range(many):
        found = sorted({replaced(row, spot, row[spot] + 1) for row in found for spot in range(seats)})
    return found


def with_few(system, place, contents, stay):
    """The standings with at most stay clients at seats, those with fewer first, then in ascending order."""
    seats = len(system.seats)
    return [
        (place, content, counts)
        for many in range(stay + 1)
        for content in contents
        for counts in spread(many, seats)
    ]


def starving(system, place, index, *, stay=0, most=2000):
    """The ascending list of the least standings, with at most stay clients at seats, that come and have a round."""
    system.server.arm(place, index)
    passing = Passing(system, place, index)
    backs = RoundBacks(system, place, index)
    reach = Reach(system, most)
    contents = [content for content in system.lanes.contents() if passing.has_open(content)]
    found = []
    for standing in with_few(system, place, contents, stay):
        if not any([system.is_above(standing, low) for low in found]):
            if shortest_round(system, backs, standing, most) is not None and reach.can_come([standing]):
                found.append(standing)
    return sorted(found)
