"""Where the server sticks, whoever comes."""

from openlanes.layers import Layers
from openlanes.moves import allowed_at
from openlanes.reach import Reach, bare, spots_of


def freed(system, most):
    """The Layers, with held, for the bare standings in which the server can make a step."""
    spots = [spot for spot in spots_of(system) if allowed_at(system.lanes, system.server, spot[0], spot[1])]
    return Layers(system, [bare(system, place, content) for place, content in spots], held=True, most=most)


def freeing(system, place, content, *, most=2000):
    """A shortest run from the bare standing whose last step is the server's and no other one is, or None."""
    standing = bare(system, place, content)
    steps = freed(system, most).way(standing)
    if steps is None:
        return None
    behind = system.run(standing, steps)[-1][1]
    return [*steps, ("", place, allowed_at(system.lanes, system.server, place, behind)[0])]


def stuck(system, *, most=2000):
    """The ascending list of the tuples (place, content) at which the server sticks."""
    layers = freed(system, most)
    reach = Reach(system, most)
    found = []
    for place, content in spots_of(system):
        standing = bare(system, place, content)
        if system.server.arms(place) and standing not in layers and reach.can_come([standing]):
            found.append((place, content))
    return found
