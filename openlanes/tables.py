"""Whether two servers can follow the same rows, with a row that parts them or a table that shows there is none."""

from openlanes.bitsets import BitSets
from openlanes.errors import TooMany
from openlanes.kinds import WORDS, is_number
from openlanes.moves import check_lanes
from openlanes.rows import is_ascending
from openlanes.walks import Walks


class Pairs:
    """The pairs of two servers, one and other, as they are found number by number.

    A pair here is a tuple (standing, others), where others are the standings of other as BitSets writes them.
    """

    def __init__(self, lanes, one, other):
        check_lanes(lanes, [one])
        check_lanes(lanes, [other])
        self._lanes = lanes
        self._walks = Walks(lanes, one)
        self._sets = BitSets(lanes, other)
        self._items = {}
        # How each pair was got first: a tuple of the pair ahead and the item, which is None for a step of one's own.
        self._got = {}

    def start(self):
        """The pair ahead of all steps and items."""
        standing = (0, self._lanes.first)
        return (standing, self._sets.reached([standing]))

    def behind_steps(self, pair):
        """The list of the pairs behind the steps of one's own."""
        return [(behind, pair[1]) for _, behind in self._walks.steps(pair[0])]

    def behind_items(self, pair):
        """The list of the tuples (item, pair behind it) for all items of the pair."""
        (place, content), others = pair
        return [
            (item, ((place, behind), self._sets.behind(others, item)))
            for item, behind in self._items_at(content)
        ]

    def search(self, most):
        """Finds the pairs, number by number; returns a shortest row that parts one from other, or None."""
        fresh = self._put({self.start(): None}, most)
        while fresh:
            found = {}
            for pair in fresh:
                for item, behind in self.behind_items(pair):
                    if behind[1] == 0:
                        return [*self._row_to(pair), item]
                    found.setdefault(behind, (pair, item))
            fresh = self._put(found, most)
        return None

    def told(self):
        """The ascending list of the pairs that were found, as the document describes them."""
        standings = {others: self._sets.standings_of(others) for _, others in self._got}
        return sorted([(standing, standings[others]) for standing, others in self._got])

    def of_list(self, thing):
        """The dict with the pairs of a list of pairs, as the document describes them, as its keys."""
        return {(standing, self._sets.number_of(standings)): True for standing, standings in thing}

    def _items_at(self, content):
        """The list of the tuples (item, content behind it) of all items that one can do at a content."""
        if content not in self._items:
            lanes = self._lanes
            shut = tuple(lanes.shut(content))
            found = [((shut, None), content)]
            for arm in [(word, lane) for word in WORDS for lane in lanes.names]:
                if arm not in shut:
                    found.append(((shut, arm), lanes.done(content, arm[0], arm[1])))
            self._items[content] = found
        return self._items[content]

    def _put(self, found, most):
        """Puts in what was found and what is behind it by steps of one's own; returns the list of the new pairs."""
        fresh = []
        while found:
            further = {}
            for pair in found:
                if pair not in self._got:
                    self._got[pair] = found[pair]
                    fresh.append(pair)
                    if len(self._got) > most:
                        raise TooMany(most)
                    for behind in self.behind_steps(pair):
                        further.setdefault(behind, (pair, None))
            found = further
        return fresh

    def _row_to(self, pair):
        """The row of the items by which a pair was got."""
        items = []
        while self._got[pair] is not None:
            pair, item = self._got[pair]
            if item is not None:
                items.append(item)
        return items[::-1]


def parting(lanes, one, other, *, most=300):
    """A shortest row that one follows and other does not, or None."""
    return Pairs(lanes, one, other).search(most)


def alike(lanes, one, other, *, most=300):
    """Whether each of the servers follows all rows that the other one follows."""
    if parting(lanes, one, other, most=most) is not None:
        return False
    return parting(lanes, other, one, most=most) is None


def table(lanes, one, other, *, most=300):
    """The ascending list of all pairs, or None if some row parts one from other."""
    pairs = Pairs(lanes, one, other)
    if pairs.search(most) is not None:
        return None
    return pairs.told()


def is_spot(lanes, server, thing):
    """Whether thing is a tuple (place, content) of the server."""
    if not isinstance(thing, tuple) or len(thing) != 2:
        return False
    return is_number(thing[0]) and thing[0] < server.size and lanes.is_content(thing[1])


def is_pair(lanes, one, other, thing):
    """Whether thing is a pair of the servers whose standings are some."""
    if not isinstance(thing, tuple) or len(thing) != 2:
        return False
    standing, standings = thing
    if not is_spot(lanes, one, standing) or not isinstance(standings, tuple) or len(standings) == 0:
        return False
    return all([is_spot(lanes, other, part) for part in standings]) and is_ascending(standings)


def is_table(lanes, one, other, thing):
    """Whether thing, any value, is a list of pairs that shows that no row parts one from other."""
    pairs = Pairs(lanes, one, other)
    if not isinstance(thing, list) or not all([is_pair(lanes, one, other, part) for part in thing]):
        return False
    held = pairs.of_list(thing)
    if pairs.start() not in held:
        return False
    for pair in held:
        if not all([behind in held for behind in pairs.behind_steps(pair)]):
            return False
        if not all([behind in held for _, behind in pairs.behind_items(pair)]):
            return False
    return True
