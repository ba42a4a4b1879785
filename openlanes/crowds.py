"""How many clients wished standings need."""

from openlanes.backs import Backs
from openlanes.growth import Growth
from openlanes.packing import packed, packing_for


def kinds_of(system):
    """The ascending list of the kinds."""
    return sorted(system.kinds())


def all_places(system):
    """The ascending list of the tuples (kind, place) of all places, those at which clients are not counted, too."""
    return [(kind, place) for kind in kinds_of(system) for place in range(system.program(kind).size)]


def needed(system, steps):
    """The crowd that a run from the first standing needs."""
    kinds = kinds_of(system)
    greatest = {kind: 0 for kind in kinds}
    for standing, (who, place, _) in zip(system.run(system.first, steps), steps):
        for kind in kinds:
            out = sum([count for seat, count in zip(system.seats, standing[2]) if seat[0] == kind])
            # Who steps from place 0 is out, even if the step leads back there.
            if who == kind and place == 0:
                out = out + 1
            greatest[kind] = max(greatest[kind], out)
    return tuple([greatest[kind] for kind in kinds])


def at_seats(system, standing):
    """The tuple (place, content, counts) with a count for all places, and nobody at the places 0."""
    counts = {seat: count for seat, count in zip(system.seats, standing[2])}
    return (standing[0], standing[1], tuple([counts.get(seat, 0) for seat in all_places(system)]))


def at_first(system, crowd):
    """The tuple of counts for all places if all clients of the crowd are at the places 0."""
    counts = {(kind, 0): many for kind, many in zip(kinds_of(system), crowd)}
    return tuple([counts.get(seat, 0) for seat in all_places(system)])


def crowd_growth(system, wished, most):
    """The layers for the wished standings if nobody comes but those who are at a place 0."""
    counted = all_places(system)
    standings = [at_seats(system, standing) for standing in wished]
    packing = packing_for(counted, standings)
    growth = Growth(packing, Backs(system, False, counted))
    growth.grow(packed(packing, standings), most)
    return growth


def suffices(system, wished, crowd, *, most=2000):
    """Whether a run of no more clients than the crowd has leads to wished standings."""
    return way_of(system, wished, crowd, most=most) is not None


def way_of(system, wished, crowd, *, most=2000):
    """A shortest run from the first standing to wished ones that needs no more than the crowd, or None."""
    growth = crowd_growth(system, wished, most)
    return growth.steps_from(system.first[:2], at_first(system, crowd))


def least_crowds(system, wished, *, most=2000):
    """The ascending list of the crowds that suffice, but for those above another one."""
    growth = crowd_growth(system, wished, most)
    seats = all_places(system)
    found = []
    for spot, counts in growth.least_of(growth.depth):
        if spot == system.first[:2]:
            crowd = tuple([count for seat, count in zip(seats, counts) if seat[1] == 0])
            if counts == at_first(system, crowd):
                found.append(crowd)
    return sorted(found)
