"""Things of all kinds, for what is refused or answered of anything."""


class Odd:
    """Equal to nothing, with no order, no length and no truth."""

    def __eq__(self, other):
        raise TypeError("never compared")

    def __bool__(self):
        raise TypeError("never true nor false")

    __hash__ = None


def deep(many):
    """A tuple with so many tuples within one another."""
    thing = ()
    for _ in range(many - 1):
        thing = (thing,)
    return thing


# These are none but things that may stand in a letter.
TUPLES = [(), (0,), ((),)]
# None of these is a number, a letter, a row, a deed, a play or a machine.
ODD_THINGS = [
    True, False, None, "", "a", "0", "ask", 0.0, 1.0, 1.5, float("nan"), float("inf"), 1j, b"", b"key",
    [], [0], [[0]], ["key"], [("key",)], {}, {0: 0}, {"key"}, set(), frozenset(), (None,), (True,),
    ("",), ([],), ({},), (Odd(),), object(), Odd(), Odd, int, len, lambda: 0, deep(100000), "a" * 5000, "9" * 5000,
    range(3), iter([]),
] + TUPLES



def no_seats(seats):
    """Things that are none of so many seats."""
    return ODD_THINGS + [-1, seats, seats + 1, 10 ** 60, -10 ** 5000]
