"""The lanes: their names, their bounds, and what arms do to their contents."""

from openlanes.errors import NoLane, Shut, Wrong
from openlanes.kinds import WORDS, is_integer, is_name, is_number, is_row_of
from openlanes.states import replaced, state_ahead, state_behind


def is_bound(thing):
    """Whether thing is an integer from 1 on."""
    return is_integer(thing) and thing >= 1


def is_bounds(thing):
    """Whether thing is what Lanes are made of."""
    if not isinstance(thing, dict) or len(thing) == 0:
        return False
    return all([is_name(name) and is_bound(bound) for name, bound in thing.items()])


def are_different_names(thing):
    """Whether thing is a list or a tuple, not empty, of different names."""
    if not is_row_of(thing, is_name) or len(thing) == 0:
        return False
    return len(set(thing)) == len(thing)


def is_state(thing, bound):
    """Whether thing is a state of a lane with this bound."""
    if not isinstance(thing, tuple) or len(thing) != 2:
        return False
    return is_number(thing[0]) and thing[0] <= bound and isinstance(thing[1], bool)


class Lanes:
    """Lanes with names and bounds; they never change, their contents are values of their own."""

    def __init__(self, bounds):
        if not is_bounds(bounds):
            raise Wrong(0)
        self._names = tuple(sorted(bounds))
        self._bounds = tuple([bounds[name] for name in self._names])
        self._spots = {name: spot for spot, name in enumerate(self._names)}

    @classmethod
    def level(cls, names, bound):
        """The Lanes with these names and the same bound for all."""
        if not are_different_names(names):
            raise Wrong(0)
        if not is_bound(bound):
            raise Wrong(1)
        return cls({name: bound for name in names})

    def __eq__(self, other):
        return isinstance(other, Lanes) and self._names == other._names and self._bounds == other._bounds

    def __len__(self):
        return len(self._names)

    def __contains__(self, thing):
        return isinstance(thing, str) and thing in self._spots

    @property
    def names(self):
        """The ascending tuple of the names."""
        return self._names

    @property
    def first(self):
        """The first content: no lane is closed, none has a signal."""
        return ((0, False),) * len(self._names)

    def _spot(self, lane):
        """The index of the lane's state in a content."""
        if lane not in self:
            raise NoLane(lane)
        return self._spots[lane]

    def _behind(self, content, word, spot):
        """The state that an arm leaves in the lane of this index, or None."""
        return state_behind(word, content[spot], self._bounds[spot])

    def bound(self, lane):
        """The bound of a lane."""
        return self._bounds[self._spot(lane)]

    def is_content(self, thing):
        """Whether thing, any value, is a content of these lanes."""
        if not isinstance(thing, tuple) or len(thing) != len(self._bounds):
            return False
        return all([is_state(state, bound) for state, bound in zip(thing, self._bounds)])

    def contents(self):
        """The ascending list of all contents."""
        found = [()]
        for bound in self._bounds:
            states = [(count, closed) for count in range(bound + 1) for closed in (False, True)]
            found = [content + (state,) for content in found for state in states]
        return found

    def state(self, content, lane):
        """The state of a lane in a content."""
        return content[self._spot(lane)]

    def is_open(self, content, word, lane):
        """Whether an arm with this word and lane is open."""
        return self._behind(content, word, self._spot(lane)) is not None

    def done(self, content, word, lane):
        """The content that an arm with this word and lane leaves."""
        spot = self._spot(lane)
        state = self._behind(content, word, spot)
        if state is None:
            raise Shut(word, lane)
        return replaced(content, spot, state)

    def ahead(self, content, word, lane):
        """The only content from which an arm with this word and lane leaves the content, or None."""
        spot = self._spot(lane)
        state = state_ahead(word, content[spot], self._bounds[spot])
        if state is None:
            return None
        return replaced(content, spot, state)

    def shut(self, content):
        """The ascending list of the tuples (word, lane) whose arms are not open."""
        return [(word, lane) for word in WORDS for lane in self._names if not self.is_open(content, word, lane)]
