"""Tuples of counts as integers, so that one subtraction compares all counts of two tuples."""

# Each step backwards makes a count greater by one at most: no search is so long that it fills these bits.
SPARE_BITS = 24


class Packing:
    """How tuples of so many counts, the greatest of them told, are written as integers.

    Each count has a field of its own, the first count the highest one: so integers have the order of their tuples.
    The highest bit of a field is 0. Where it is set before a subtraction and gone behind it, the count was too small.
    """

    def __init__(self, many, greatest):
        self._width = greatest.bit_length() + SPARE_BITS
        self._top = (1 << (self._width - 1)) - 1
        self._units = [1 << (self._width * (many - 1 - spot)) for spot in range(many)]
        self._fields = [self._top * unit for unit in self._units]
        self._guards = sum([unit << (self._width - 1) for unit in self._units])

    def pack(self, counts):
        """The integer for a tuple of counts; a count beyond the field is as good as the greatest one within it."""
        number = 0
        for count in counts:
            number = (number << self._width) + min(count, self._top)
        return number

    def unpack(self, number):
        """The tuple of counts of an integer."""
        return tuple([number // unit & self._top for unit in self._units])

    def covers(self, high, low):
        """Whether no count of high is less than that of low."""
        return ((high | self._guards) - low) & self._guards == self._guards

    def covers_one(self, number, lows):
        """Whether the number covers one of lows, a dict with numbers as its keys."""
        if number in lows:
            return True
        guards = self._guards
        high = number | guards
        for low in lows:
            if (high - low) & guards == guards:
                return True
        return False

    def covering(self, number, lows):
        """The list of those of lows that cover the number."""
        guards = self._guards
        return [low for low in lows if ((low | guards) - number) & guards == guards]

    def lowest(self, numbers):
        """The dict, in ascending order, of the numbers that cover no other one of the numbers."""
        kept = {}
        for number in sorted(numbers):
            # What a number covers is less than it, and so it is looked at before it.
            if not self.covers_one(number, kept):
                kept[number] = True
        return kept

    def ahead(self, number, start, goal):
        """The least number from which a client's step from start to goal leads to what covers the number.

        start and goal are indexes of counts, or None for a place that is not counted.
        """
        if goal is not None and number & self._fields[goal]:
            number = number - self._units[goal]
        if start is not None:
            number = number + self._units[start]
        return number


def packing_for(counted, standings):
    """The Packing for standings with a count for each of counted, and with counts like those."""
    greatest = max([0] + [count for standing in standings for count in standing[2]])
    return Packing(len(counted), greatest)


def packed(packing, standings):
    """The dict from spots, tuples (place, content), to the least numbers of the standings there."""
    found = {}
    for place, content, counts in standings:
        numbers = found.setdefault((place, content), {})
        numbers[packing.pack(counts)] = True
    return {spot: packing.lowest(found[spot]) for spot in sorted(found)}
