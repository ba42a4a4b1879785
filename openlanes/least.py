"""The least standings of a list, and the least ones from which one step leads above a standing."""

from openlanes.backs import Backs
from openlanes.packing import packed, packing_for


def least(system, standings):
    """The ascending list of those among the standings that are above no other one, each once."""
    packing = packing_for(system.seats, standings)
    spots = packed(packing, standings)
    return [(place, content, packing.unpack(number)) for place, content in spots for number in spots[place, content]]


def before(system, standing, *, held=False):
    """The ascending list of the least standings from which one step leads to a standing above this one."""
    packing = packing_for(system.seats, [standing])
    number = packing.pack(standing[2])
    found = []
    for (place, content), start, goal, _ in Backs(system, held, system.seats).into(standing[:2]):
        found.append((place, content, packing.unpack(packing.ahead(number, start, goal))))
    return least(system, found)
