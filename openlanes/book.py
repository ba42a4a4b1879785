"""Books: what is done in a system, deed by deed."""

from openlanes.errors import Full, NoEntry, Nothing, Refused, Wrong
from openlanes.kinds import is_number
from openlanes.layers import Layers
from openlanes.states import replaced
from openlanes.stuck import freed
from openlanes.systems import System


def is_step_deed(thing):
    """Whether thing is a deed by which a step is made, if it can be made or not."""
    if not isinstance(thing, tuple) or len(thing) != 4 or not all([isinstance(part, str) for part in thing[:2]]):
        return False
    return thing[0] == "step" and is_number(thing[2]) and is_number(thing[3])


def is_quit_deed(system, thing):
    """Whether thing is a deed by which a client at a seat gives up, if one is there or not."""
    if not isinstance(thing, tuple) or len(thing) != 3 or not all([isinstance(part, str) for part in thing[:2]]):
        return False
    return thing[0] == "quit" and is_number(thing[2]) and thing[1:] in system.seats


def behind_deed(system, standing, deed):
    """The standing behind a deed, or None if it can't be done."""
    if deed[0] == "step":
        step = deed[1:]
        if not system.is_run(standing, [step]):
            return None
        return system.after(standing, step)
    place, content, counts = standing
    spot = system.seat(deed[1], deed[2])
    if counts[spot] == 0:
        return None
    return (place, content, replaced(counts, spot, counts[spot] - 1))


class Book:
    """A system in a standing, with a log of the deeds that led there."""

    MOST = 200

    def __init__(self, system):
        if not isinstance(system, System):
            raise Wrong(0)
        self._system = system
        # These are tuples, so that a state of the Book can be kept as it is: the standings ahead of all deeds and
        # behind each one, the deeds, and those that were undone, the last one last.
        self._passed = (system.first,)
        self._log = ()
        self._undone = ()

    def __eq__(self, other):
        return isinstance(other, Book) and self._system == other._system and self._log == other._log

    def __len__(self):
        return len(self._log)

    @property
    def system(self):
        """The System."""
        return self._system

    @property
    def standing(self):
        """The standing behind the last deed of the log."""
        return self._passed[-1]

    def _put(self, deed, standing):
        """Puts a deed to the end of the log."""
        self._passed = (*self._passed, standing)
        self._log = (*self._log, deed)

    def _kept(self, many):
        """A new Book that has done the first many deeds of the log."""
        book = Book(self._system)
        book._passed = self._passed[:many + 1]
        book._log = self._log[:many]
        return book

    def do(self, deed):
        """Does a deed; returns the standing behind it."""
        if not is_step_deed(deed) and not is_quit_deed(self._system, deed):
            raise Wrong(0)
        if len(self._log) >= self.MOST:
            raise Full()
        behind = behind_deed(self._system, self.standing, deed)
        if behind is None:
            raise Refused(deed)
        self._put(deed, behind)
        self._undone = ()
        return behind

    def back(self):
        """Undoes the last deed of the log; returns it."""
        if not self._log:
            raise Nothing()
        deed = self._log[-1]
        self._passed = self._passed[:-1]
        self._log = self._log[:-1]
        self._undone = (*self._undone, deed)
        return deed

    def again(self):
        """Does again the deed that was undone last; returns it."""
        if not self._undone:
            raise Nothing()
        deed = self._undone[-1]
        self._put(deed, behind_deed(self._system, self.standing, deed))
        self._undone = self._undone[:-1]
        return deed

    def until(self, many):
        """A new Book that has done the first many deeds of the log, with nothing that can be done again."""
        if not is_number(many) or many > len(self._log):
            raise NoEntry(many)
        return self._kept(many)

    def copied(self):
        """A new Book in the same state, with what can be done again."""
        book = self._kept(len(self._log))
        book._undone = self._undone
        return book

    def trial(self, act):
        """Calls act with this Book and returns what it returns; the Book is then as it was ahead of the call."""
        passed, log, undone = self._passed, self._log, self._undone
        try:
            return act(self)
        finally:
            self._passed, self._log, self._undone = passed, log, undone

    def log(self):
        """The list of the deeds."""
        return list(self._log)

    def steps(self):
        """The ascending list of the steps that can be made now."""
        return self._system.steps(self.standing)

    def way(self, wished, *, most=2000):
        """A shortest run from the standing that leads to wished standings, or None."""
        return Layers(self._system, wished, most=most).way(self.standing)

    def sticks(self, *, most=2000):
        """Whether the server is at a place with arms and never makes a step again, whoever comes."""
        if not self._system.server.arms(self.standing[0]):
            return False
        return self.standing not in freed(self._system, most)
