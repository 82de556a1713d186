"""Halls of voters, and what breaks those whose sets are apart."""

from soleseat.base.hall import Hall
from soleseat.base.whole import is_below
from soleseat.sets.forms import looked, share
from soleseat.votes.errors import NoFirst
from soleseat.votes.voter import Voter


def vote_hall(seats, sets, *, firsts=None, counts=(), falls=False):
    """A hall of voters of a family of sets."""
    _look_at_all(seats, sets, firsts)
    told = [None] * seats if firsts is None else firsts
    begins = list(counts[:seats]) + [0] * (seats - len(counts))
    voters = [Voter(seat, sets, first=told[seat], count=begins[seat]) for seat in range(seats)]
    return Hall(voters, falls=falls)


def break_run(seats, sets, *, firsts=None):
    """None where the first sets of each two seats share a seat; else deeds of a new hall that lead two in."""
    _look_at_all(seats, sets, firsts)
    own = _first_sets(seats, sets, firsts)
    for a in range(len(own)):
        for b in range(a + 1, len(own)):
            if not share(own[a], own[b]):
                return _deeds(a, b, own[a], own[b])
    return None


def _look_at_all(seats, sets, firsts):
    looked(seats, sets)
    if firsts is not None:
        place = _firsts_fault(seats, sets, firsts)
        if place is not None:
            raise NoFirst(place)


def _firsts_fault(seats, sets, firsts):
    """The first place, of anything, that holds no number of a set, or lacks one, or has one too many; or None."""
    if not isinstance(firsts, (list, tuple)):
        return 0
    for place, number in enumerate(firsts):
        if place == seats or not is_below(number, len(sets)):
            return place
    if len(firsts) < seats:
        return len(firsts)
    return None


def _first_sets(seats, sets, firsts):
    """The first set of each seat; none in a family without sets."""
    if firsts is not None:
        return [sets[number] for number in firsts]
    if len(sets) == 0:
        return []
    return [sets[seat % len(sets)] for seat in range(seats)]


def _deeds(a, b, of_a, of_b):
    """How a and b come in, as far as no seat stands in the sets of both."""
    there = [("carry", a, seat) for seat in of_a] + [("carry", b, seat) for seat in of_b]
    back = [("carry", seat, a) for seat in of_a] + [("carry", seat, b) for seat in of_b]
    return [("ask", a), ("ask", b)] + there + back
