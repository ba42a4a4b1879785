"""Systems: lanes, a server, kinds of clients, and the steps that they make."""

from openlanes.errors import NoKind, NoPlace, NoSeat, Refused, Stopped, Wrong
from openlanes.kinds import is_name, is_number, is_step
from openlanes.lanes import Lanes
from openlanes.moves import allowed_at, behind_arm, check_lanes
from openlanes.programs import Program
from openlanes.states import replaced


def is_kinds(thing):
    """Whether thing is a dict from names to Programs."""
    if not isinstance(thing, dict):
        return False
    return all([is_name(kind) and isinstance(program, Program) for kind, program in thing.items()])


def is_counts(thing, many):
    """Whether thing is a tuple of so many integers from 0 on."""
    return isinstance(thing, tuple) and len(thing) == many and all([is_number(count) for count in thing])


class System:
    """Lanes, a server and kinds of clients; it never changes, its standings are values of their own."""

    def __init__(self, lanes, server, kinds):
        if not isinstance(lanes, Lanes):
            raise Wrong(0)
        if not isinstance(server, Program):
            raise Wrong(1)
        if not is_kinds(kinds):
            raise Wrong(2)
        check_lanes(lanes, [server, *list(kinds.values())])
        self._lanes = lanes
        self._server = server
        self._kinds = {kind: kinds[kind] for kind in sorted(kinds)}
        self._seats = tuple([(kind, place) for kind in self._kinds for place in range(1, kinds[kind].size)])
        self._spots = {seat: spot for spot, seat in enumerate(self._seats)}

    def __eq__(self, other):
        if not isinstance(other, System):
            return False
        return self._lanes == other._lanes and self._server == other._server and self._kinds == other._kinds

    @property
    def lanes(self):
        """The Lanes."""
        return self._lanes

    @property
    def server(self):
        """The server's Program."""
        return self._server

    @property
    def first(self):
        """The first standing."""
        return (0, self._lanes.first, (0,) * len(self._seats))

    @property
    def seats(self):
        """The ascending tuple of the seats."""
        return self._seats

    def kinds(self):
        """The dict from the kinds to their Programs."""
        return {kind: self._kinds[kind] for kind in self._kinds}

    def program(self, who):
        """The server for the empty string, otherwise the Program of a kind."""
        if who == "":
            return self._server
        if not is_name(who) or who not in self._kinds:
            raise NoKind(who)
        return self._kinds[who]

    def seat(self, kind, place):
        """The index of a seat among the seats."""
        if not is_name(kind) or kind not in self._kinds:
            raise NoKind(kind)
        if not is_number(place) or (kind, place) not in self._spots:
            raise NoSeat(place)
        return self._spots[(kind, place)]

    def at(self, place, content, crowd):
        """The standing with these counts of clients at seats."""
        if not is_number(place) or place >= self._server.size:
            raise NoPlace(place)
        counts = [0] * len(self._seats)
        for seat in sorted(crowd):
            counts[self.seat(seat[0], seat[1])] = crowd[seat]
        return (place, content, tuple(counts))

    def is_standing(self, thing):
        """Whether thing, any value, is a standing of this system."""
        if not isinstance(thing, tuple) or len(thing) != 3:
            return False
        place, content, counts = thing
        if not is_number(place) or place >= self._server.size:
            return False
        return self._lanes.is_content(content) and is_counts(counts, len(self._seats))

    def is_above(self, one, other):
        """Whether the former standing is above the latter."""
        return one[:2] == other[:2] and all([more >= less for more, less in zip(one[2], other[2])])

    def _is_there(self, standing, who, place):
        """Whether somebody who can make a step as who stands at this place."""
        if who == "":
            return place == standing[0]
        if who not in self._kinds:
            return False
        if place == 0:
            return True
        return (who, place) in self._spots and standing[2][self._spots[(who, place)]] > 0

    def _recounted(self, counts, kind, place, change):
        """The counts with so many more clients at a place of the kind; those at place 0 are not counted."""
        if place == 0:
            return counts
        spot = self._spots[(kind, place)]
        return replaced(counts, spot, counts[spot] + change)

    def _behind(self, standing, step):
        """The standing behind a step, or None if it can't be made, whatever step is."""
        if not is_step(step):
            return None
        who, place, index = step
        content, counts = standing[1:]
        if not self._is_there(standing, who, place):
            return None
        program = self.program(who)
        if index not in allowed_at(self._lanes, program, place, content):
            return None
        goal, content = behind_arm(self._lanes, program.arms(place)[index], content)
        if who == "":
            return (goal, content, counts)
        counts = self._recounted(self._recounted(counts, who, place, -1), who, goal, 1)
        return (standing[0], content, counts)

    def steps(self, standing):
        """The ascending list of the steps that can be made."""
        found = [("", standing[0])]
        for kind in self._kinds:
            size = self._kinds[kind].size
            found.extend([(kind, place) for place in range(size) if self._is_there(standing, kind, place)])
        return [
            (who, place, index)
            for who, place in found
            for index in allowed_at(self._lanes, self.program(who), place, standing[1])
        ]

    def after(self, standing, step):
        """The standing behind a step."""
        behind = self._behind(standing, step)
        if behind is None:
            raise Refused(step)
        return behind

    def run(self, standing, steps):
        """The list of the standings on the way of a run, the first and the last one too."""
        way = [standing]
        for index, step in enumerate(steps):
            behind = self._behind(way[-1], step)
            if behind is None:
                raise Stopped(index)
            way.append(behind)
        return way

    def is_run(self, standing, thing):
        """Whether thing, any value, is a run from the standing."""
        if not isinstance(thing, list):
            return False
        for step in thing:
            standing = self._behind(standing, step)
            if standing is None:
                return False
        return True
