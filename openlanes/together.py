"""How many clients can be at a seat at the same time."""

from openlanes.reach import Reach, spots_of


def together(system, kind, place, *, limit=3, most=2000):
    """The greatest number, at most limit, of clients who can be at this seat at the same time."""
    system.seat(kind, place)
    reach = Reach(system, most)
    for many in range(1, limit + 1):
        crowd = {(kind, place): many}
        if not reach.can_come([system.at(spot[0], spot[1], crowd) for spot in spots_of(system)]):
            return many - 1
    return limit
