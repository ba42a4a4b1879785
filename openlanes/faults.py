"""Sends and closes that are met at a closed lane."""

from openlanes.reach import Reach, alone


def meets_closed(system, reach, who, place, lane):
    """Whether this program can be at this place while the lane is closed."""
    contents = [content for content in system.lanes.contents() if system.lanes.state(content, lane)[1]]
    return reach.can_come(alone(system, who, place, contents))


def faults(system, *, most=2000):
    """The ascending list of the tuples (who, place, index) of sends and closes that are met at a closed lane."""
    reach = Reach(system, most)
    homes = [("", place) for place in range(system.server.size)]
    found = []
    for who, place in [*homes, *system.seats]:
        met = {}
        for index, arm in enumerate(system.program(who).arms(place)):
            if arm[0] in ("send", "close"):
                if arm[1] not in met:
                    met[arm[1]] = meets_closed(system, reach, who, place, arm[1])
                if met[arm[1]]:
                    found.append((who, place, index))
    return found
