"""What one program may do at a place and a content."""

from openlanes.errors import NoLane, Refused
from openlanes.programs import is_else


def check_lanes(lanes, programs):
    """Raises NoLane for the least name in any of the programs that is no lane."""
    names = {name: True for program in programs for name in program.used()}
    for name in sorted(names):
        if name not in lanes:
            raise NoLane(name)


def open_arms(lanes, arms, content):
    """The ascending list of the indexes of those of a place's arms that are open."""
    indexes = [index for index, arm in enumerate(arms) if not is_else(arm) and lanes.is_open(content, arm[0], arm[1])]
    if not indexes:
        indexes = [index for index, arm in enumerate(arms) if is_else(arm)]
    return indexes


def allowed(lanes, mode, arms, content):
    """The ascending list of the indexes of the arms that a place with this mode and these arms may take."""
    indexes = open_arms(lanes, arms, content)
    if mode == "first":
        return indexes[:1]
    return indexes


def allowed_at(lanes, program, place, content):
    """The ascending list of the indexes of the arms that the place may take, if all names in the program are lanes."""
    return allowed(lanes, program.mode(place), program.arms(place), content)


def behind_arm(lanes, arm, content):
    """The tuple (place, content) behind an arm that the place may take."""
    if is_else(arm):
        return (arm[1], content)
    return (arm[2], lanes.done(content, arm[0], arm[1]))


def choices(lanes, program, place, content):
    """The ascending list of the indexes of the arms that the place may take."""
    check_lanes(lanes, [program])
    return allowed_at(lanes, program, place, content)


def moved(lanes, program, place, content, index):
    """The tuple (place, content) behind the arm of this index."""
    check_lanes(lanes, [program])
    arm = program.arm(place, index)
    if index not in allowed_at(lanes, program, place, content):
        raise Refused(index)
    return behind_arm(lanes, arm, content)
