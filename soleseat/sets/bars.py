"""Seats that stand in each set of a family."""

from soleseat.base.post import look_at_seat
from soleseat.sets.errors import TooMany
from soleseat.sets.forms import FEW, looked, share


def barred(seats, sets, fallen):
    """The first set without a fallen seat, or the least fallen seat of each set."""
    looked(seats, sets)
    for seat in fallen:
        look_at_seat(seat, seats)
    bar = []
    for number, one in enumerate(sets):
        down = [seat for seat in one if seat in fallen]
        if len(down) == 0:
            return "whole", number
        bar.append(down[0])
    return "bar", bar


def least_bar(seats, sets):
    """A bar of as few seats as can be, and cases that show that fewer never do."""
    looked(seats, sets)
    if seats > FEW:
        raise TooMany("seats")
    cases = []
    chosen = [()]
    while True:
        missed = [_missed(sets, some) for some in chosen]
        # Each bar holds one of the chosen of each length up to its own, so the first chosen one that is a bar itself
        # has as few seats as can be; all shorter ones are cases.
        if None in missed:
            return chosen[missed.index(None)], cases
        cases.extend(list(zip(chosen, missed)))
        chosen = sorted({tuple(sorted(some + (seat,)))
                         for some, number in zip(chosen, missed) for seat in sets[number]})


def _missed(sets, some):
    """The number of the first set that shares no seat with some seats, or None."""
    for number, one in enumerate(sets):
        if not share(one, some):
            return number
    return None
