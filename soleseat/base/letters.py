"""What a letter is."""

from soleseat.base.whole import is_below

LONGEST = 8
DEEPEST = 4
TOP = 10 ** 60
SIGNS = "abcdefghijklmnopqrstuvwxyz"
END_MARK = ("gone",)


def is_letter(thing):
    """Whether thing, of anything, is a letter."""
    return letter_fault(thing) is None


def letter_fault(thing):
    """None of a letter; else the place of the first fault of thing, of anything."""
    if not isinstance(thing, tuple) or len(thing) == 0 or not _is_word(thing[0]):
        return 0
    for at in range(1, len(thing)):
        if not _is_thing(thing[at], 1):
            return at
    return None


def _is_word(thing):
    if not isinstance(thing, str) or not 1 <= len(thing) <= LONGEST:
        return False
    return all([sign in SIGNS for sign in thing]) and thing != END_MARK[0]


def _is_thing(thing, around):
    """Whether thing may stand in a letter, within so many tuples."""
    if not isinstance(thing, tuple):
        return is_below(thing, TOP)
    if around == DEEPEST:
        return False
    return all([_is_thing(part, around + 1) for part in thing])
