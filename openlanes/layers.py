"""The layers of standings from which a run of so many steps leads to wished ones."""

from openlanes.backs import Backs
from openlanes.growth import Growth
from openlanes.packing import packed, packing_for


class Layers:
    """All layers for wished standings of a system; they never change."""

    def __init__(self, system, wished, *, held=False, most=2000):
        packing = packing_for(system.seats, wished)
        self._growth = Growth(packing, Backs(system, held, system.seats))
        self._growth.grow(packed(packing, wished), most)
        self._last = self._growth.depth
        self._lowest = self.layer(self._last)

    def __contains__(self, standing):
        return self._growth.first_mark(standing[:2], standing[2]) is not None

    def __len__(self):
        return len(self._lowest)

    @property
    def last(self):
        """The least k such that all further layers have the same standings as the layer k."""
        return self._last

    def layer(self, k):
        """The ascending list of the least standings of a layer."""
        return sorted([(spot[0], spot[1], counts) for spot, counts in self._growth.least_of(k)])

    def rank(self, standing):
        """The least k such that the standing is in the layer k, or None."""
        mark = self._growth.first_mark(standing[:2], standing[2])
        if mark is None:
            return None
        return self._growth.rank_of(mark)

    def way(self, standing):
        """A shortest run from the standing that leads to wished ones, or None."""
        return self._growth.steps_from(standing[:2], standing[2])
