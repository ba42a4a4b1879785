"""Sets of standings of one server, as integers."""

from openlanes.effects import Effects
from openlanes.walks import Walks


class BitSets:
    """Sets of standings (place, content) of a server, each one an integer with a bit for each standing in it.

    The bits of one content are beside one another, a bit for each place: an item that is done moves them together.
    What was found out once is kept.
    """

    def __init__(self, lanes, server):
        self._walks = Walks(lanes, server)
        self._effects = Effects(lanes)
        self._contents = lanes.contents()
        self._size = server.size
        self._group = (1 << server.size) - 1
        self._further = {}
        self._done = {}

    def number_of(self, standings):
        """The integer of the set of these standings, which are all different."""
        return sum([1 << (self._effects.spot_of(content) * self._size + place) for place, content in standings])

    def standings_of(self, number):
        """The ascending tuple of the standings of a set."""
        found = []
        for spot, content in enumerate(self._contents):
            group = number >> (spot * self._size)
            found.extend([(place, content) for place in range(self._size) if group >> place & 1])
        return tuple(sorted(found))

    def reached(self, starts):
        """The set of all standings that steps of the server lead to, the starts too."""
        return self.number_of(self._walks.reached(starts))

    def behind(self, number, item):
        """The set that can be there if the item is done at a standing of the set, and steps follow behind it."""
        if (number, item) not in self._done:
            found = 0
            for ahead, spot in self._effects.moves(item):
                found = found | self._reached_from(spot, (number >> (ahead * self._size)) & self._group)
            self._done[number, item] = found
        return self._done[number, item]

    def _reached_from(self, spot, group):
        """The set that steps lead to from the content of this index and the places whose bits are in the group."""
        if (spot, group) not in self._further:
            places = [place for place in range(self._size) if group >> place & 1]
            self._further[spot, group] = self.reached([(place, self._contents[spot]) for place in places])
        return self._further[spot, group]
