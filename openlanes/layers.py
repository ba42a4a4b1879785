"""The layers of standings from which a run of so many steps leads to wished ones."""

from openlanes.backs import Backs
from openlanes.growth import Growth
from openlanes.packing import packed, packing_for


class Layers:
    """All layers for wished standings of a system; they never change."""

    def __init__(self, system, wished, *, held=False, most=2000):
        self._packing = packing_for(system, wished)
        growth = Growth(self._packing, Backs(system, held))
        growth.grow(packed(self._packing, wished), most)
        self._entries = growth.entries
        self._ends = growth.ends
        self._last = growth.depth
        self._marks = {}
        for mark, entry in enumerate(self._entries):
            self._marks.setdefault(entry[0], []).append(mark)
        self._lowest = self.layer(self._last)

    def __contains__(self, standing):
        return self._mark(standing) is not None

    def __len__(self):
        return len(self._lowest)

    @property
    def last(self):
        """The least k such that all further layers have the same standings as the layer k."""
        return self._last

    def layer(self, k):
        """The ascending list of the least standings of a layer."""
        found = []
        for mark, (spot, number, rank, _, _) in enumerate(self._entries):
            if rank <= k and (mark not in self._ends or k < self._ends[mark]):
                found.append((spot[0], spot[1], self._packing.unpack(number)))
        return sorted(found)

    def _mark(self, standing):
        """The first mark, and so one of the least rank, that the standing covers, or None."""
        place, content, counts = standing
        number = self._packing.pack(counts)
        for mark in self._marks.get((place, content), []):
            if self._packing.covers(number, self._entries[mark][1]):
                return mark
        return None

    def rank(self, standing):
        """The least k such that the standing is in the layer k, or None."""
        mark = self._mark(standing)
        if mark is None:
            return None
        return self._entries[mark][2]

    def way(self, standing):
        """A shortest run from the standing that leads to wished ones, or None."""
        mark = self._mark(standing)
        if mark is None:
            return None
        steps = []
        while self._entries[mark][2] > 0:
            _, _, _, step, mark = self._entries[mark]
            steps.append(step)
        return steps
