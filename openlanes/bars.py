"""Lists of standings that bar a standing from wished ones."""

from openlanes.backs import Backs
from openlanes.packing import packed, packing_for


def is_above_one(packing, spots, standing):
    """Whether the standing is above one of those packed in spots."""
    place, content, counts = standing
    return packing.covers_one(packing.pack(counts), spots.get((place, content), {}))


def is_closed(packing, spots, backs):
    """Whether each step that leads above one of those packed in spots starts from above one of them."""
    for spot in spots:
        for number in spots[spot]:
            for former, start, goal, _ in backs.into(spot):
                if not packing.covers_one(packing.ahead(number, start, goal), spots.get(former, {})):
                    return False
    return True


def is_bar(system, wished, standing, thing, *, held=False):
    """Whether thing, any value, is a list of standings that bars the standing from wished ones."""
    if not isinstance(thing, list) or not all([system.is_standing(part) for part in thing]):
        return False
    packing = packing_for(system.seats, [standing, *wished, *thing])
    spots = packed(packing, thing)
    if is_above_one(packing, spots, standing):
        return False
    if not all([is_above_one(packing, spots, wish) for wish in wished]):
        return False
    return is_closed(packing, spots, Backs(system, held, system.seats))
