"""The errors of the package, one class for each kind of failure."""


class LaneError(ValueError):
    """What all errors of the package have in common; it is raised nowhere itself."""


class Wrong(LaneError):
    """The argument at this place is not as described."""

    def __init__(self, place):
        self.place = place


class NoLane(LaneError):
    """There is no lane of this name."""

    def __init__(self, lane):
        self.lane = lane


class Shut(LaneError):
    """An arm with this word and lane is not open."""

    def __init__(self, word, lane):
        self.word = word
        self.lane = lane


class NoPlace(LaneError):
    """The program has no such place."""

    def __init__(self, place):
        self.place = place


class NoArm(LaneError):
    """The place has no arm of this index."""

    def __init__(self, index):
        self.index = index


class TwoElse(LaneError):
    """The place has more than one else arm."""

    def __init__(self, place):
        self.place = place


class Refused(LaneError):
    """This can't be done now."""

    def __init__(self, what):
        self.what = what


class NoKind(LaneError):
    """There is no such kind of clients."""

    def __init__(self, kind):
        self.kind = kind


class NoSeat(LaneError):
    """The kind has no seat at this place."""

    def __init__(self, place):
        self.place = place


class Stopped(LaneError):
    """The step of this index can't be made."""

    def __init__(self, index):
        self.index = index


class TooMany(LaneError):
    """There would be more than so many."""

    def __init__(self, most):
        self.most = most


class Full(LaneError):
    """The log has no room for another deed."""

    def __init__(self):
        pass


class Nothing(LaneError):
    """There is no deed to undo or to do again."""

    def __init__(self):
        pass


class NoEntry(LaneError):
    """The log has no so many deeds."""

    def __init__(self, many):
        self.many = many


class NoText(LaneError):
    """The text writes no value as described."""

    def __init__(self):
        pass


class NoCommand(LaneError):
    """The line is no command."""

    def __init__(self):
        pass
