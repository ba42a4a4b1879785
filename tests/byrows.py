"""What the document says of rows, and of servers that follow them, in the plainest way, to compare the package with.

A server is a list of places here; `Bare` has the lanes. Standings are tuples (place, content).
"""

from itertools import chain, combinations

from openlanes.lanes import Lanes
from openlanes.programs import Program
from tests.byhand import WORDS, Model, arm_result, some_places


class Bare(Model):
    """Lanes alone; bounds is a dict from names to bounds."""

    def __init__(self, bounds):
        super().__init__(bounds, [("any", ())], {})
        self.lanes = Lanes(bounds)
        self.first = (0, self.contents()[0])
        self.deals = [(word, name) for word in WORDS for name in self.names]

    def behind_deal(self, content, deal):
        """The content behind an arm with a lane, or None if it is not open."""
        spot = self.names.index(deal[1])
        state = arm_result(content[spot], self.bounds[deal[1]], deal[0])
        return None if state is None else content[:spot] + (state,) + content[spot + 1:]

    def shut(self, content):
        return tuple(deal for deal in self.deals if self.behind_deal(content, deal) is None)

    def all_items(self):
        """Each item over the lanes."""
        shuts = chain.from_iterable(combinations(self.deals, k) for k in range(len(self.deals) + 1))
        return [(shut, arm) for shut in shuts for arm in (None, *self.deals)]

    def full_items(self):
        """The items whose shut are all arms that are not open at some content, whatever their arm is."""
        return [(shut, arm) for shut in sorted({self.shut(c) for c in self.contents()}) for arm in (None, *self.deals)]

    def behind_item(self, content, item):
        """The content behind an item, or None if it can't be done."""
        shut, arm = item
        if any(self.behind_deal(content, deal) is not None for deal in shut):
            return None
        return content if arm is None else self.behind_deal(content, arm)

    def reached(self, server, standings):
        """All standings that steps of the server's own lead to."""
        found = set(standings)
        row = list(standings)
        while row:
            place, content = row.pop()
            for _, to, behind in self.moves(server, place, content):
                if (to, behind) not in found:
                    found.add((to, behind))
                    row.append((to, behind))
        return frozenset(found)

    def after_item(self, server, standings, item):
        """All standings behind the item, done from one of the standings, with steps of the server's own behind it."""
        behind = [(place, self.behind_item(content, item)) for place, content in standings]
        return self.reached(server, [row for row in behind if row[1] is not None])

    def behind_row(self, server, row):
        """All standings in which the server can be behind the row."""
        found = self.reached(server, [self.first])
        for item in row:
            found = self.after_item(server, found, item)
        return found

    def takes(self, server, row, told):
        """Whether the server, taking arms of these indexes ahead of each item, does the row."""
        place, content = self.first
        if len(row) != len(told):
            return False
        for item, indexes in zip(row, told):
            for index in indexes:
                found = [move for move in self.moves(server, place, content) if move[0] == index]
                if not found:
                    return False
                _, place, content = found[0]
            content = self.behind_item(content, item)
            if content is None:
                return False
        return True

    def parted_by(self, one, other, items, most):
        """The fewest items, at most so many, of a row of these items that one follows and other does not, or None.

        A row stands for the two sets of the standings behind it; so rows with the same two sets are one.
        """
        found = {(self.reached(one, [self.first]), self.reached(other, [self.first]))}
        seen = set(found)
        for k in range(1, most + 1):
            further = set()
            for ours, others in found:
                for item in items:
                    ahead = self.after_item(one, ours, item)
                    if ahead:
                        further.add((ahead, self.after_item(other, others, item)))
            if any(not others for _, others in further):
                return k
            found = further - seen
            seen |= found
            if not found:
                return None
        return None

    def pairs(self, one, other, most):
        """The list with the set of the pairs of each number, up to where no further one brings a new pair.

        It ends behind the number at which some row parts one from other; pairs without standings are left out there.
        """
        others = self.reached(other, [self.first])
        rows = [{(x, others) for x in self.reached(one, [self.first])}]
        for _ in range(most):
            further = set()
            for (place, content), others in rows[-1]:
                for arm in (None, *self.deals):
                    item = (self.shut(content), arm)
                    if self.behind_item(content, item) is not None:
                        behind = self.after_item(other, others, item)
                        further |= {(x, behind) for x in self.after_item(one, [(place, content)], item)}
            if any(not others for _, others in further):
                return rows, True
            if further <= set().union(*rows):
                return rows, False
            rows.append(further)
        raise AssertionError("more numbers than looked at")

    def told(self, pairs):
        """The ascending list of pairs as the document describes them."""
        return sorted((x, tuple(sorted(others))) for x, others in pairs)

    def is_table(self, one, other, thing):
        """Whether a list of tuples (standing, tuple of standings), all well made, shows that no row parts them."""
        held = {(x, frozenset(others)) for x, others in thing}
        if (self.first, self.reached(other, [self.first])) not in held:
            return False
        for (place, content), others in held:
            if not others:
                return False
            for _, to, behind in self.moves(one, place, content):
                if ((to, behind), others) not in held:
                    return False
            for arm in (None, *self.deals):
                item = (self.shut(content), arm)
                behind = self.behind_item(content, item)
                if behind is not None and ((place, behind), self.after_item(other, others, item)) not in held:
                    return False
        return True


def changed(chance, places):
    """The same server with a small change, or written otherwise."""
    places = [(mode, list(arms)) for mode, arms in places]
    spot = chance.randrange(len(places))
    mode, arms = places[spot]
    how = chance.randrange(7)
    if how == 0:
        places[spot] = ("any" if mode == "first" else "first", arms)
    elif how == 1 and len(arms) > 1:
        arms[0], arms[1] = arms[1], arms[0]
    elif how == 2 and arms:
        arms.pop(chance.randrange(len(arms)))
    elif how == 3 and arms:
        arms.append(chance.choice([arm for arm in arms if arm[0] != "else"] or [("take", "a", spot)]))
    elif how == 4:
        # A place that is never come to.
        places.append(("first", [("send", "a", 0), ("else", spot)]))
    elif how == 5:
        # The place doubled: whoever leads there may as well lead to its other number.
        places.append((mode, list(arms)))
        places = [(m, [(*arm[:-1], len(places) - 1) if arm[-1] == spot and chance.random() < 0.5 else arm for arm in a])
                  for m, a in places]
    elif how == 6:
        return turned(places)
    return [(mode, tuple(arms)) for mode, arms in places]


def turned(places):
    """The same server with the places behind place 0 in the contrary order."""
    def new(place):
        return place and len(places) - place
    found = [(mode, tuple((*arm[:-1], new(arm[-1])) for arm in arms)) for mode, arms in places]
    return [found[new(place)] for place in range(len(places))]


def some_server(chance, bounds, words=WORDS + ("send", "take")):
    return some_places(chance, sorted(bounds), chance.choice([1, 2, 2, 3]), 3, words)


def some_chain(chance, bounds):
    """A server that does one thing after another, so that much has to be done until a change is seen."""
    size = chance.randint(2, 4)
    found = []
    for place in range(size):
        arms = [(chance.choice(["take", "take", "send", "ended"]), chance.choice(sorted(bounds)), (place + 1) % size)]
        if chance.random() < 0.3:
            arms.append((chance.choice(["take", "send"]), chance.choice(sorted(bounds)), chance.randrange(size)))
        found.append((chance.choice(["first", "any"]), tuple(arms)))
    return found


def some_servers(chance, bounds):
    """Two servers, the second one often like the first one."""
    words = chance.choice([WORDS + ("send", "take"), ("send", "take", "take")])
    one = some_chain(chance, bounds) if chance.random() < 0.4 else some_server(chance, bounds, words)
    other = one
    for _ in range(chance.choice([0, 1, 1, 2, 3])):
        other = changed(chance, other)
    if chance.random() < 0.2:
        other = some_server(chance, bounds, words)
    return one, other


def some_row(chance, bare, server, length):
    """A row that the server mostly can follow for a while."""
    row, found = [], bare.reached(server, [bare.first])
    for _ in range(length):
        if found and chance.random() < 0.9:
            _, content = chance.choice(sorted(found))
            shut = bare.shut(content)
            arms = [deal for deal in bare.deals if deal not in shut] + [None]
            item = (tuple(deal for deal in shut if chance.random() < 0.6), chance.choice(arms))
        else:
            shut = sorted(chance.sample(bare.deals, chance.randint(0, 3)))
            item = (tuple(shut), chance.choice([None, *bare.deals]))
        row.append(item)
        found = bare.after_item(server, found, item)
    return row


def programs(*servers):
    return [Program(places) for places in servers]


BOUNDS = [{"a": 1}, {"a": 2}, {"a": 1, "b": 1}, {"b": 2, "a": 1}, {"a": 3}]
