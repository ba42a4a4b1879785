"""The search backwards from wished standings, layer by layer."""

from openlanes.errors import TooMany


class Growth:
    """The layers as they grow, for the least numbers of all spots together.

    A mark is the index of an entry, a tuple (spot, number, rank, step, following): there is one for each number that
    was among the least ones of a layer, in the order of the layers. The rank is the first layer that has the number;
    the step leads from it to what covers the number of the mark following, whose rank is one less. The rank 0 has
    neither. What backs.into(spot) tells is a list of ways as Backs tells it; spots are any tuples that can be sorted.
    """

    def __init__(self, packing, backs):
        self._packing = packing
        self._backs = backs
        self._entries = []
        self._marks = {}
        # The first layer in which the number of a mark is not among the least ones any more.
        self._ends = {}
        self._tried = {}
        self._lows = {}
        self._many = 0
        self.depth = 0

    def grow(self, starts, most):
        """Finds all layers; starts is the dict from spots to the least numbers of the layer 0."""
        rank = 0
        fresh = self._put(rank, {spot: {number: (None, None) for number in starts[spot]} for spot in starts})
        while fresh:
            if self._many > most:
                raise TooMany(most)
            self.depth = rank
            rank = rank + 1
            # What leads into older marks is in this layer already.
            fresh = self._put(rank, self._ahead_of(fresh))

    def first_mark(self, spot, counts):
        """The first mark of the spot, and so one of the least rank, whose number the counts cover, or None."""
        number = self._packing.pack(counts)
        for mark in self._marks.get(spot, []):
            if self._packing.covers(number, self._entries[mark][1]):
                return mark
        return None

    def rank_of(self, mark):
        """The first layer that has the number of the mark."""
        return self._entries[mark][2]

    def steps_from(self, spot, counts):
        """The list of the steps of a shortest way from the counts at the spot to the layer 0, or None."""
        mark = self.first_mark(spot, counts)
        if mark is None:
            return None
        steps = []
        while self._entries[mark][2] > 0:
            _, _, _, step, mark = self._entries[mark]
            steps.append(step)
        return steps

    def least_of(self, k):
        """The list of the tuples (spot, counts) of the least numbers of a layer."""
        found = []
        for mark, (spot, number, rank, _, _) in enumerate(self._entries):
            if rank <= k and (mark not in self._ends or k < self._ends[mark]):
                found.append((spot, self._packing.unpack(number)))
        return found

    def _ahead_of(self, marks):
        """The dict from spots to dicts from the least numbers one step ahead of the marks to (step, following)."""
        found = {}
        for mark in marks:
            spot, number = self._entries[mark][:2]
            for former, start, goal, step in self._backs.into(spot):
                numbers = found.setdefault(former, {})
                numbers.setdefault(self._packing.ahead(number, start, goal), (step, mark))
        return found

    def _put(self, rank, found):
        """Puts what was found into the layer of this rank; returns the list of the new marks."""
        fresh = []
        for spot in sorted(found):
            numbers = found[spot]
            tried = self._tried.setdefault(spot, {})
            lows = self._lows.setdefault(spot, {})
            # In ascending order no number covers one that comes behind it.
            for number in sorted(numbers):
                if number not in tried:
                    tried[number] = True
                    if not self._packing.covers_one(number, lows):
                        fresh.append(self._marked(spot, number, rank, numbers[number]))
        return fresh

    def _marked(self, spot, number, rank, reason):
        """Makes a number one of the least ones instead of those that cover it; returns its mark."""
        lows = self._lows[spot]
        gone = self._packing.covering(number, lows)
        for high in gone:
            self._ends[lows[high]] = rank
            del lows[high]
        mark = len(self._entries)
        lows[number] = mark
        self._entries.append((spot, number, rank, reason[0], reason[1]))
        self._marks.setdefault(spot, []).append(mark)
        self._many = self._many + 1 - len(gone)
        return mark
