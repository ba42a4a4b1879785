"""Arms that are taken in no run."""

from openlanes.moves import allowed_at
from openlanes.reach import Reach, alone


def is_taken(system, reach, who, place, index):
    """Whether a run from the first standing has this step."""
    program = system.program(who)
    contents = [c for c in system.lanes.contents() if index in allowed_at(system.lanes, program, place, c)]
    return reach.can_come(alone(system, who, place, contents))


def never_taken(system, *, most=2000):
    """The ascending list of the tuples (who, place, index) that are steps of no run from the first standing."""
    reach = Reach(system, most)
    found = []
    for who in ["", *sorted(system.kinds())]:
        for place, (_, arms) in enumerate(system.program(who).places()):
            for index in range(len(arms)):
                if not is_taken(system, reach, who, place, index):
                    found.append((who, place, index))
    return found
