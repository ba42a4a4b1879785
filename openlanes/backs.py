"""Which steps lead into a place of the server and a content, and from where."""

from openlanes.moves import allowed
from openlanes.programs import is_else


def arms_into(lanes, program, content):
    """The list of tuples (place, index, to, ahead): taken at the content ahead, the arm leaves the content."""
    found = []
    for place, (mode, arms) in enumerate(program.places()):
        for index, arm in enumerate(arms):
            ahead = content if is_else(arm) else lanes.ahead(content, arm[0], arm[1])
            if ahead is not None and index in allowed(lanes, mode, arms, ahead):
                found.append((place, index, arm[-1], ahead))
    return found


class Backs:
    """The steps that lead into spots, tuples (place, content); what was found out once is kept.

    A way into a spot is a tuple (spot, start, goal, step): a step that is made at the former spot by a client whose
    count at start gets one less and whose count at goal one more; these are indexes in counted, the tuples
    (kind, place) whose clients are counted, None for other places and for steps of the server.
    """

    def __init__(self, system, held, counted):
        self._system = system
        self._held = held
        self._counted = {seat: index for index, seat in enumerate(counted)}
        self._servers = {}
        self._clients = {}
        self._ways = {}

    def into(self, spot):
        """The list of the ways into a spot, one for each effect, in ascending order of their steps."""
        if spot not in self._ways:
            place, content = spot
            ways = {}
            for start_place, ahead, goal_place, step in self._server_ways(content):
                if goal_place == place:
                    ways.setdefault(((start_place, ahead), None, None), step)
            for ahead, start, goal, step in self._client_ways(content):
                ways.setdefault(((place, ahead), start, goal), step)
            self._ways[spot] = [(former, start, goal, ways[former, start, goal]) for former, start, goal in ways]
        return self._ways[spot]

    def _server_ways(self, content):
        """The list of tuples (place, content ahead, to, step) of the server's steps that leave the content."""
        if self._held:
            return []
        if content not in self._servers:
            system = self._system
            self._servers[content] = [
                (place, ahead, to, ("", place, index))
                for place, index, to, ahead in arms_into(system.lanes, system.server, content)
            ]
        return self._servers[content]

    def _client_ways(self, content):
        """The list of tuples (content ahead, start, goal, step) of the clients' steps that leave the content."""
        if content not in self._clients:
            kinds = self._system.kinds()
            self._clients[content] = [
                (ahead, self._counted.get((kind, place)), self._counted.get((kind, to)), (kind, place, index))
                for kind in sorted(kinds)
                for place, index, to, ahead in arms_into(self._system.lanes, kinds[kind], content)
            ]
        return self._clients[content]
