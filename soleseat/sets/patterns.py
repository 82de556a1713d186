"""Grids and walls: families each two sets of which share a seat."""

from soleseat.base.post import SEATS
from soleseat.sets.errors import NoShape, TooMany
from soleseat.sets.forms import SETS


def grid(rows, columns):
    """The family of a grid: for each seat its row and its column."""
    for side in (rows, columns):
        if side < 2:
            raise NoShape(side)
    if rows * columns > SEATS:
        raise TooMany("seats")
    return [_cross(rows, columns, seat) for seat in range(rows * columns)]


def wall_sets(widths, *, most=SETS):
    """The family of a wall: for each row its seats, and one seat of each later row in each way."""
    for width in widths:
        if width < 1:
            raise NoShape(width)
    if len(widths) == 0:
        raise NoShape(0)
    if sum(widths) > SEATS:
        raise TooMany("seats")
    if _how_many(widths) > most:
        raise TooMany("sets")
    sets = []
    # From the last row up: the ways to take one seat of each row below, rising.
    ways = [()]
    end = sum(widths)
    for width in reversed(widths):
        row = tuple(range(end - width, end))
        sets.extend([row + way for way in ways])
        ways = [(seat,) + way for seat in row for way in ways]
        end -= width
    return sets


def _cross(rows, columns, seat):
    return tuple([other for other in range(rows * columns)
                  if other // columns == seat // columns or other % columns == seat % columns])


def _how_many(widths):
    many = 0
    ways = 1
    for width in reversed(widths):
        many += ways
        ways *= width
    return many
