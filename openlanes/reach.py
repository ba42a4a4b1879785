"""Whether standings can come, asked again and again of one system."""

from openlanes.backs import Backs
from openlanes.growth import Growth
from openlanes.packing import packed, packing_for


class Reach:
    """Asks whether standings of a system can come; what was found out about its steps is kept between the questions."""

    def __init__(self, system, most):
        self._system = system
        self._most = most
        self._backs = Backs(system, False, system.seats)

    def can_come(self, wished):
        """Whether one of the wished standings can come; raises TooMany as Layers does."""
        packing = packing_for(self._system.seats, wished)
        growth = Growth(packing, self._backs)
        growth.grow(packed(packing, wished), self._most)
        first = self._system.first
        return growth.first_mark(first[:2], first[2]) is not None


def bare(system, place, content):
    """The standing with nobody at a seat."""
    return system.at(place, content, {})


def alone(system, who, place, contents):
    """The standings with one of these contents in which who is at this place, and nobody else at a seat."""
    if who == "":
        return [bare(system, place, content) for content in contents]
    crowd = {}
    if place > 0:
        crowd = {(who, place): 1}
    return [system.at(at, content, crowd) for at in range(system.server.size) for content in contents]


def spots_of(system):
    """The ascending list of the tuples (place, content) of the server."""
    return [(place, content) for place in range(system.server.size) for content in system.lanes.contents()]
