"""What each two sets of a family share."""

from soleseat.sets.forms import looked


def meeting(seats, sets):
    """For each set the least seats that it shares with those ahead of it; or the first two that share none."""
    looked(seats, sets)
    table = [[_least_shared(one, other) for other in sets[:number]] for number, one in enumerate(sets)]
    apart = [(lower, other) for other, row in enumerate(table) for lower, seat in enumerate(row) if seat is None]
    if len(apart) > 0:
        return ("apart",) + min(apart)
    return "meets", table


def _least_shared(one, other):
    """The least seat in both sets, or None."""
    for seat in one:
        if seat in other:
            return seat
    return None
