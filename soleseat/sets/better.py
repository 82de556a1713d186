"""Families that are as good as can be, and what is lacking in others."""

from soleseat.sets.errors import Apart, TooMany
from soleseat.sets.forms import FEW, looked
from soleseat.sets.masks import has_whole, least_masks, mask_of, seats_in
from soleseat.sets.meeting import meeting


def lacking(seats, sets):
    """None of a family as good as can be; else a set that shares a seat with each set and holds none."""
    _look_at(seats, sets)
    family = [mask_of(one) for one in sets]
    for mask in range(1, 1 << seats):
        if _is_lacking(seats, family, mask):
            return seats_in(mask)
    return None


def bettered(seats, sets):
    """The least sets of a family as good as can be that each set of this one goes into."""
    _look_at(seats, sets)
    family = [mask_of(one) for one in sets]
    for mask in range(1, 1 << seats):
        # What shares a seat with each set so far may be put in; behind all choices none is lacking any more.
        if _is_lacking(seats, family, mask):
            family.append(mask)
    return [seats_in(mask) for mask in least_masks(family)]


def _look_at(seats, sets):
    looked(seats, sets)
    if seats > FEW:
        raise TooMany("seats")
    met = meeting(seats, sets)
    if met[0] == "apart":
        raise Apart(met[1], met[2])


def _is_lacking(seats, family, mask):
    """Whether neither a choice of seats nor all the others have a whole set."""
    others = (1 << seats) - 1 - mask
    return not has_whole(mask, family) and not has_whole(others, family)
