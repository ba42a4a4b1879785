"""Programs: places with modes and arms."""

from openlanes.errors import NoArm, NoPlace, TwoElse, Wrong
from openlanes.kinds import is_arm, is_mode, is_number, is_row_of
from openlanes.states import replaced


def is_place(thing):
    """Whether thing is a list or a tuple of a mode and arms, wherever they lead."""
    if not isinstance(thing, (list, tuple)) or len(thing) != 2:
        return False
    return is_mode(thing[0]) and is_row_of(thing[1], is_arm)


def is_else(arm):
    """Whether the arm is an else arm."""
    return len(arm) == 2


class Program:
    """A program; it never changes."""

    def __init__(self, places):
        if not is_row_of(places, is_place) or len(places) == 0:
            raise Wrong(0)
        self._places = tuple([(mode, tuple(arms)) for mode, arms in places])
        self._check()
        names = {arm[1]: True for _, arms in self._places for arm in arms if not is_else(arm)}
        self._used = tuple(sorted(names))

    def _check(self):
        """Raises an error for an arm that leads to no place, then for a second else arm."""
        for _, arms in self._places:
            for arm in arms:
                if arm[-1] >= len(self._places):
                    raise NoPlace(arm[-1])
        for place, (_, arms) in enumerate(self._places):
            if len([arm for arm in arms if is_else(arm)]) > 1:
                raise TwoElse(place)

    def __eq__(self, other):
        return isinstance(other, Program) and self._places == other._places

    @property
    def size(self):
        """The number of places."""
        return len(self._places)

    def _place(self, place):
        """The tuple (mode, arms) of a place."""
        if not is_number(place) or place >= len(self._places):
            raise NoPlace(place)
        return self._places[place]

    def _place_with_arm(self, place, index):
        """The tuple (mode, arms) of a place that has an arm of this index."""
        mode, arms = self._place(place)
        if not is_number(index) or index >= len(arms):
            raise NoArm(index)
        return mode, arms

    def _changed(self, place, mode, arms):
        """A new Program with this mode and these arms of the place."""
        return Program(replaced(self._places, place, (mode, arms)))

    def places(self):
        """The list of the places, as tuples (mode, arms)."""
        return list(self._places)

    def mode(self, place):
        """The mode of a place."""
        return self._place(place)[0]

    def arms(self, place):
        """The list of the arms of a place."""
        return list(self._place(place)[1])

    def arm(self, place, index):
        """The arm of this index of a place."""
        return self._place_with_arm(place, index)[1][index]

    def used(self):
        """The ascending list of the names of lanes that stand in arms."""
        return list(self._used)

    def with_mode(self, place, mode):
        """A new Program with this mode of the place."""
        return self._changed(place, mode, self._place(place)[1])

    def swapped(self, place, index):
        """A new Program with the arm of this index and the next one exchanged."""
        mode, arms = self._place_with_arm(place, index)
        if index + 1 == len(arms):
            raise NoArm(index + 1)
        return self._changed(place, mode, arms[:index] + (arms[index + 1], arms[index]) + arms[index + 2:])

    def without(self, place, index):
        """A new Program without the arm of this index."""
        mode, arms = self._place_with_arm(place, index)
        return self._changed(place, mode, arms[:index] + arms[index + 1:])
