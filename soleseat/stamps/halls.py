"""Halls of stampers."""

from soleseat.base.hall import Hall
from soleseat.base.post import look_at_many
from soleseat.base.whole import is_below
from soleseat.stamps.errors import BadCounts
from soleseat.stamps.stamper import FIRST, Stamper

TOP = 10 ** 40


def stampers(seats, *, counts=()):
    """A stamper for each seat, with its first count where one is told."""
    look_at_many(seats)
    at = _counts_fault(seats, counts)
    if at is not None:
        raise BadCounts(at)
    firsts = list(counts) + [FIRST] * (seats - len(counts))
    return [Stamper(seat, seats, count=firsts[seat]) for seat in range(seats)]


def stamp_hall(seats, *, counts=(), falls=False):
    """A hall of stampers."""
    return Hall(stampers(seats, counts=counts), falls=falls)


def _counts_fault(seats, counts):
    """The first place, of anything, that holds no first count or is one too many, or None."""
    if not isinstance(counts, (list, tuple)):
        return 0
    for at, count in enumerate(counts):
        if at == seats or not is_below(count, TOP):
            return at
    return None
