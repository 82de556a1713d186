"""How families of sets are told and looked at."""

from soleseat.base.post import SEATS
from soleseat.base.whole import is_below
from soleseat.sets.errors import NoFamily, TooMany

SETS = 200
FEW = 9


def fault(seats, sets):
    """None of a family of so many seats; else the number of the first set that is not well, and the word for it."""
    seen = set()
    for number, one in enumerate(sets):
        why = _set_fault(seats, one)
        if why is None and one in seen:
            why = "again"
        if why is not None:
            return number, why
        seen.add(one)
    return None


def looked(seats, sets):
    """Refuse what is no family of so many seats."""
    if not 1 <= seats <= SEATS:
        raise TooMany("seats")
    if len(sets) > SETS:
        raise TooMany("sets")
    found = fault(seats, sets)
    if found is not None:
        raise NoFamily(found[0], found[1])


def least_ones(seats, sets):
    """The sets of a family that hold no other one, in their order."""
    looked(seats, sets)
    return [one for one in sets if not any([one != other and holds(one, other) for other in sets])]


def holds(one, other):
    """Whether each seat of the other set stands in the first one."""
    return all([seat in one for seat in other])


def share(one, other):
    """Whether some seat stands in both sets."""
    return any([seat in one for seat in other])


def _set_fault(seats, one):
    """The word for what is not well in a set by itself, or None."""
    if len(one) == 0:
        return "empty"
    if not all([is_below(seat, seats) for seat in one]):
        return "outside"
    if not all([one[at - 1] < one[at] for at in range(1, len(one))]):
        return "order"
    return None
