"""What any value is: an integer, a name, a word, an arm, and what else the package asks of any value."""

LETTERS = "abcdefghijklmnopqrstuvwxyz"
LONGEST = 8
WORDS = ("close", "ended", "send", "take")
MODES = ("any", "first")


def is_integer(thing):
    """Whether thing is an integer; True and False are none."""
    return isinstance(thing, int) and not isinstance(thing, bool)


def is_number(thing):
    """Whether thing is an integer from 0 on."""
    return is_integer(thing) and thing >= 0


def is_name(thing):
    """Whether thing is a string of one to eight lowercase letters."""
    if not isinstance(thing, str) or not 1 <= len(thing) <= LONGEST:
        return False
    return all([letter in LETTERS for letter in thing])


def is_word(thing):
    """Whether thing is one of the four words of arms with a lane."""
    return isinstance(thing, str) and thing in WORDS


def is_mode(thing):
    """Whether thing is a mode of a place."""
    return isinstance(thing, str) and thing in MODES


def is_arm(thing):
    """Whether thing is an arm, with a lane or an else arm."""
    if not isinstance(thing, tuple):
        return False
    if len(thing) == 2:
        return isinstance(thing[0], str) and thing[0] == "else" and is_number(thing[1])
    return len(thing) == 3 and is_word(thing[0]) and is_name(thing[1]) and is_number(thing[2])


def is_row_of(thing, is_part):
    """Whether thing is a list or a tuple whose parts are all as the function is_part says."""
    return isinstance(thing, (list, tuple)) and all([is_part(part) for part in thing])


def is_step(thing):
    """Whether thing has the form of a step."""
    if not isinstance(thing, tuple) or len(thing) != 3:
        return False
    return isinstance(thing[0], str) and is_integer(thing[1]) and is_integer(thing[2])
