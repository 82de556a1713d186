"""Families put in the place of a seat of other ones."""

from soleseat.base.post import SEATS, look_at_seat
from soleseat.sets.errors import TooMany
from soleseat.sets.forms import SETS, looked


def joined(seats, sets, *, at, by_seats, by):
    """The first family with a second one in the place of one of its seats."""
    looked(seats, sets)
    looked(by_seats, by)
    look_at_seat(at, seats)
    if seats - 1 + by_seats > SEATS:
        raise TooMany("seats")
    ends = [tuple([seats - 1 + seat for seat in one]) for one in by]
    family = []
    for one in sets:
        start = tuple([seat if seat < at else seat - 1 for seat in one if seat != at])
        if at in one:
            family.extend([start + end for end in ends])
        else:
            family.append(start)
    if len(family) > SETS:
        raise TooMany("sets")
    return family
