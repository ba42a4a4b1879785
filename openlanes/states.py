"""What the arms do to the state (count, closed) of one lane."""


def state_behind(word, state, bound):
    """The state that an arm with this word leaves, or None if the arm is not open."""
    count, closed = state
    if word == "send" and not closed and count < bound:
        return (count + 1, False)
    if word == "take" and count > 0:
        return (count - 1, closed)
    if word == "ended" and closed and count == 0:
        return state
    if word == "close" and not closed:
        return (count, True)
    return None


def state_ahead(word, state, bound):
    """The only state from which an arm with this word leaves the state, or None if there is none."""
    count, closed = state
    if word == "send" and not closed and count > 0:
        return (count - 1, False)
    if word == "take" and count < bound:
        return (count + 1, closed)
    if word == "ended" and closed and count == 0:
        return state
    if word == "close" and closed:
        return (count, False)
    return None


def replaced(row, index, item):
    """The tuple row with this item at the index."""
    return row[:index] + (item,) + row[index + 1:]
