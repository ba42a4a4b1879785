"""Where a client is caught, whoever comes."""

from openlanes.layers import Layers
from openlanes.moves import allowed_at
from openlanes.reach import Reach, alone


def caught(system, kind, place, *, most=2000):
    """The ascending list of the tuples (place, content) of the server at which a client at the seat is caught alone."""
    system.seat(kind, place)
    program = system.program(kind)
    if not program.arms(place):
        return []
    contents = system.lanes.contents()
    free = [content for content in contents if allowed_at(system.lanes, program, place, content)]
    layers = Layers(system, alone(system, kind, place, free), most=most)
    reach = Reach(system, most)
    found = []
    for standing in alone(system, kind, place, contents):
        if standing not in layers and reach.can_come([standing]):
            found.append(standing[:2])
    return found
