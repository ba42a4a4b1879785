"""Where the clients of a fixed crowd can come."""

from openlanes.crowds import all_places, at_first, kinds_of
from openlanes.errors import TooMany
from openlanes.states import replaced
from openlanes.walks import Walks


def walks_of(system):
    """The dict from the empty string, for the server, and the kinds to the Walks of their programs."""
    return {who: Walks(system.lanes, system.program(who)) for who in ["", *kinds_of(system)]}


def stepped(counts, spot, goal):
    """The counts with one client less at the spot and one more at the goal, which are indexes of counts."""
    less = replaced(counts, spot, counts[spot] - 1)
    return replaced(less, goal, less[goal] + 1)


def states_behind(walks, places, state):
    """The list of the tuples (place, content, counts) one step behind such a tuple; places are those of the counts."""
    place, content, counts = state
    found = [(to, behind, counts) for _, (to, behind) in walks[""].steps((place, content))]
    for spot, (kind, start) in enumerate(places):
        if counts[spot] > 0:
            for _, (to, behind) in walks[kind].steps((start, content)):
                found.append((place, behind, stepped(counts, spot, spot - start + to)))
    return found


def all_states(system, crowd, most):
    """The dict with all tuples (place, content, counts) to which steps of the server and the crowd lead as its keys."""
    walks = walks_of(system)
    places = all_places(system)
    first = (0, system.lanes.first, at_first(system, crowd))
    found = {first: True}
    row = [first]
    while row:
        further = []
        for state in row:
            for behind in states_behind(walks, places, state):
                if behind not in found:
                    found[behind] = True
                    further.append(behind)
                    if len(found) > most:
                        raise TooMany(most)
        row = further
    return found


def by_kinds(system, counts):
    """The clients' part: the counts with a tuple for each kind."""
    found = []
    begin = 0
    for kind in kinds_of(system):
        end = begin + system.program(kind).size
        found.append(counts[begin:end])
        begin = end
    return tuple(found)


def comings(system, crowd, *, most=2000):
    """The ascending list of the clients' parts to which steps of the server and of the clients of the crowd lead."""
    found = sorted({counts for _, _, counts in all_states(system, crowd, most)})
    return [by_kinds(system, counts) for counts in found]
