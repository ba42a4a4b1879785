"""Changes of a server that no crowd sees."""

from openlanes.tables import alike


def mode_matters(lanes, server, place, *, most=300):
    """Whether some crowd sees it if the place gets the other mode."""
    mode = "any" if server.mode(place) == "first" else "first"
    return not alike(lanes, server, server.with_mode(place, mode), most=most)


def order_matters(lanes, server, place, index, *, most=300):
    """Whether some crowd sees it if the arm of this index and the next one are exchanged."""
    return not alike(lanes, server, server.swapped(place, index), most=most)


def arm_matters(lanes, server, place, index, *, most=300):
    """Whether some crowd sees it if the arm of this index is left out."""
    return not alike(lanes, server, server.without(place, index), most=most)


def lean(lanes, server, *, most=300):
    """A Program that is alike to the server, without the arms that did not matter as it went over them."""
    for place in range(server.size):
        index = 0
        while index < len(server.arms(place)):
            if arm_matters(lanes, server, place, index, most=most):
                index = index + 1
            else:
                server = server.without(place, index)
    return server
