"""Trees of seats, told by the seat above each."""

from soleseat.base.post import SEATS, look_at_seat
from soleseat.base.whole import is_below
from soleseat.trees.errors import NoTree

FIRST = 0


class Tree:
    """Seats beside one another, with a top to which the ups of all lead."""

    def __init__(self, ups):
        if not _is_tree(ups):
            raise NoTree()
        self._ups = list(ups)

    def told_ups(self):
        """For each seat the one above it, itself for the top."""
        return list(self._ups)

    def beside(self, seat):
        """The seats beside a seat, rising."""
        look_at_seat(seat, len(self))
        return [other for other in range(len(self)) if other != seat and self._are_beside(seat, other)]

    def way(self, a, b):
        """The seats from a to b, both too, each beside the next."""
        self._look_at(a, b)
        rise = _rise(self._ups, a)
        down = _rise(self._ups, b)
        # Both rises end in the seats that they share; the way turns at the first of these.
        while len(rise) > 1 and len(down) > 1 and rise[-2] == down[-2]:
            rise.pop()
            down.pop()
        return rise + down[-2::-1]

    def apart(self, a, b):
        """How many steps lead from a to b."""
        return len(self.way(a, b)) - 1

    def second(self, a, b):
        """The second seat of the way from a to b, or a itself."""
        way = self.way(a, b)
        return way[min(1, len(way) - 1)]

    def meeting(self, a, b, c):
        """The one seat on all ways between three."""
        self._look_at(a, b)
        look_at_seat(c, len(self))
        there = self.way(b, c)
        # The way from a comes to that between the others at this seat.
        return [seat for seat in self.way(a, b) if seat in there][0]

    def farthest(self):
        """(a, b), a no greater than b: the least two that are apart the most."""
        pairs = [(a, b) for a in range(len(self)) for b in range(a, len(self))]
        steps = [self.apart(a, b) for a, b in pairs]
        return pairs[steps.index(max(steps))]

    def hung(self, seat):
        """The tree with the same seats beside one another, and this one its top."""
        look_at_seat(seat, len(self))
        return Tree([self.second(other, seat) for other in range(len(self))])

    def __len__(self):
        return len(self._ups)

    def __eq__(self, other):
        return isinstance(other, Tree) and self._ups == other._ups

    def __str__(self):
        return " ".join([str(up) for up in self._ups])

    def _look_at(self, a, b):
        look_at_seat(a, len(self))
        look_at_seat(b, len(self))

    def _are_beside(self, a, b):
        return self._ups[a] == b or self._ups[b] == a


def _is_tree(ups):
    """Whether ups, of anything, are those of a tree."""
    if not isinstance(ups, (list, tuple)) or not 1 <= len(ups) <= SEATS:
        return False
    if not all([is_below(up, len(ups)) for up in ups]):
        return False
    tops = [seat for seat, up in enumerate(ups) if seat == up]
    return len(tops) == 1 and all([_rise(ups, seat)[-1] == tops[0] for seat in range(len(ups))])


def _rise(ups, seat):
    """The seats from one up to the top; where the ups lead in a ring, as many as there are at most."""
    rise = [seat]
    while len(rise) < len(ups) and ups[rise[-1]] != rise[-1]:
        rise.append(ups[rise[-1]])
    return rise
