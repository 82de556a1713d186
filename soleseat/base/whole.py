"""Whole numbers, as seats, rows and letters count with them."""


def is_below(thing, top):
    """Whether thing, of anything, is a number from 0 to below top."""
    # True and False stand under int, but are no numbers here.
    return isinstance(thing, int) and not isinstance(thing, bool) and 0 <= thing < top
