"""What the items of rows do to the contents of lanes."""


class Effects:
    """What items do to all contents at once, which are told by their indexes; what was found out once is kept."""

    def __init__(self, lanes):
        self._lanes = lanes
        self._contents = lanes.contents()
        self._spots = {content: spot for spot, content in enumerate(self._contents)}
        self._behinds = {}
        self._masks = {}
        self._moves = {}

    def spot_of(self, content):
        """The index of a content among all, which are ascending."""
        return self._spots[content]

    def content_of(self, spot):
        """The content of this index."""
        return self._contents[spot]

    def moves(self, item):
        """The list of the tuples (ahead, behind) of indexes, for all contents at which the item can be done."""
        if item not in self._moves:
            shut, arm = item
            barred = 0
            for word, lane in shut:
                barred = barred | self._mask_of(word, lane)
            found = [(spot, spot) for spot in self._spots.values()] if arm is None else self._moves_by(arm[0], arm[1])
            self._moves[item] = [(ahead, behind) for ahead, behind in found if not barred >> ahead & 1]
        return self._moves[item]

    def _moves_by(self, word, lane):
        """The list of the tuples (ahead, behind) of indexes of contents for an arm with this word and lane."""
        if (word, lane) not in self._behinds:
            self._behinds[word, lane] = [
                (spot, self._spots[self._lanes.done(content, word, lane)])
                for spot, content in enumerate(self._contents)
                if self._lanes.is_open(content, word, lane)
            ]
        return self._behinds[word, lane]

    def _mask_of(self, word, lane):
        """The integer with a bit for the index of each content at which an arm with this word and lane is open."""
        if (word, lane) not in self._masks:
            self._masks[word, lane] = sum([1 << ahead for ahead, _ in self._moves_by(word, lane)])
        return self._masks[word, lane]
