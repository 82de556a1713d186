"""Halls of callers."""

from soleseat.base.hall import Hall
from soleseat.calls.callers import FIRST, callers


def call_hall(seats, *, first=FIRST, falls=False):
    """A hall of callers."""
    return Hall(callers(seats, first=first), falls=falls)
