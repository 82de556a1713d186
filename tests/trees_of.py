"""Trees told by their ups, and halls of machines on them."""

from soleseat.base.hall import Hall
from soleseat.trees.turners import Turner
from soleseat.trees.twigs import Twig


def some_ups(chance, seats):
    """The ups of a tree of so many seats; any of them is the top."""
    order = list(range(seats))
    chance.shuffle(order)
    ups = [0] * seats
    for place, seat in enumerate(order):
        ups[seat] = order[chance.randrange(place)] if place else seat
    return ups


def way(ups, a, b):
    """The seats from a to b, each beside the next."""
    up_a, up_b = all_up(ups, a), all_up(ups, b)
    while len(up_a) > 1 and len(up_b) > 1 and up_a[-2] == up_b[-2]:
        up_a.pop()
        up_b.pop()
    return up_a + up_b[-2::-1]


def all_up(ups, seat):
    found = [seat]
    while ups[found[-1]] != found[-1]:
        found.append(ups[found[-1]])
    return found


def second(ups, a, b):
    """The second seat of the way from a to b, a itself where b is a."""
    return (way(ups, a, b) + [a])[1 if a != b else 0]


def twig_hall_of(ups, key, falls=False):
    return Hall([Twig(seat, second(ups, seat, key)) for seat in range(len(ups))], falls=falls)


def turner_hall_of(ups, key, falls=False):
    return Hall([Turner(seat, second(ups, seat, key)) for seat in range(len(ups))], falls=falls)
