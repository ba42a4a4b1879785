"""What a program does by steps of its own."""

from openlanes.moves import allowed_at, behind_arm


class Walks:
    """The steps of one program alone; what was found out once is kept.

    A standing here is a tuple (place, content) of this program. All names in the program are lanes.
    """

    def __init__(self, lanes, program):
        self._lanes = lanes
        self._program = program
        self._steps = {}

    def steps(self, standing):
        """The list of the tuples (index, standing behind) of the steps that can be made, by ascending index."""
        if standing not in self._steps:
            place, content = standing
            arms = self._program.arms(place)
            self._steps[standing] = [
                (index, behind_arm(self._lanes, arms[index], content))
                for index in allowed_at(self._lanes, self._program, place, content)
            ]
        return self._steps[standing]

    def reached(self, starts):
        """The dict from all standings that steps lead to, the starts too, to how each was come to first.

        This is a tuple (standing ahead, index), or None for a start.
        """
        found = {standing: None for standing in starts}
        row = list(starts)
        while row:
            further = []
            for standing in row:
                for index, behind in self.steps(standing):
                    if behind not in found:
                        found[behind] = (standing, index)
                        further.append(behind)
            row = further
        return found
