"""Planes: to each prime a family, each two sets of which share just one seat."""

from math import isqrt

from soleseat.base.errors import NoSeat
from soleseat.base.post import SEATS, look_at_seat
from soleseat.base.whole import is_below
from soleseat.sets.errors import NoSet, NotPrime, TooMany, TooManyFallen

GREATEST = 9973

# How the seats lie, all but the numbers of seats and sets being counted modulo p:
# Seat x * (p + 1) + j, with j below p, is near and lies over x. The seats x * (p + 1) + p, one for each x below p,
# and the last seat, p * (p + 1), are far.
# Set m * (p + 1) is upright: all near seats over m, and the last seat. Set m * (p + 1) + i, with i from 1 to p, slopes
# by m: over each x the near seat with j = x * (m - x) + i, and the far seat m * (p + 1) + p. The last set, p * (p + 1),
# is all far seats.
# Two sets that slope by unlike numbers share the near seat over the one x at which the two j are the same.
# Each set but the last has one far seat, and over m the set that slopes by m has j = i: so set k holds seat k.


def seats_of(p):
    """How many seats a plane has, and how many sets."""
    _look_at_prime(p)
    return _last(p) + 1


def lies(p, seat, number):
    """Whether a seat stands in a set."""
    _look_at_prime(p)
    _look_at_seat(p, seat)
    _look_at_set(p, number)
    if number == _last(p):
        return _is_far(p, seat)
    if _is_far(p, seat):
        return seat == _far_seat(p, number)
    return number == _set_through(p, _far_seat(p, number), seat)


def set_of(p, number):
    """The set of a number."""
    _look_at_prime(p)
    _look_at_set(p, number)
    return _set_of(p, number)


def shared(p, one, other):
    """The seat that two sets share."""
    _look_at_prime(p)
    _look_at_set(p, one)
    _look_at_set(p, other)
    if one == other:
        raise NoSet(other)
    if one == _last(p):
        return _far_seat(p, other)
    if other == _last(p) or _far_seat(p, one) == _far_seat(p, other):
        return _far_seat(p, one)
    if _is_upright(p, one):
        return _seat_over(p, other, one // (p + 1))
    if _is_upright(p, other):
        return _seat_over(p, one, other // (p + 1))
    m, i = divmod(one, p + 1)
    n, k = divmod(other, p + 1)
    # Here x * (m - x) + i and x * (n - x) + k are the same.
    return _seat_over(p, one, (k - i) * _inverse(m - n, p) % p)


def holding(p, one, other):
    """The number of the set in which two seats stand."""
    _look_at_prime(p)
    _look_at_seat(p, one)
    _look_at_seat(p, other)
    if one == other:
        raise NoSeat(other)
    if _is_far(p, one) and _is_far(p, other):
        return _last(p)
    if _is_far(p, one):
        return _set_through(p, one, other)
    if _is_far(p, other):
        return _set_through(p, other, one)
    x, j = divmod(one, p + 1)
    y, k = divmod(other, p + 1)
    if x == y:
        return _set_through(p, _last(p), one)
    # Here j - x * (m - x) and k - y * (m - y) are the same.
    m = ((j - k) * _inverse(x - y, p) + x + y) % p
    return _set_through(p, m * (p + 1) + p, one)


def free(p, fallen):
    """The number of a set in which none of the fallen seats stands."""
    _look_at_prime(p)
    for seat in fallen:
        _look_at_seat(p, seat)
    if len(fallen) > p:
        raise TooManyFallen(len(fallen))
    down = set(fallen)
    # There are more far seats than fallen ones, and more sets through that one, too: each fallen seat stands in just
    # one of these.
    far = [seat for seat in _set_of(p, _last(p)) if seat not in down][0]
    taken = {_last(p) if _is_far(p, seat) else _set_through(p, far, seat) for seat in fallen}
    return [number for number in _sets_through(p, far) if number not in taken][0]


def plane(p):
    """All sets, in their order."""
    _look_at_prime(p)
    if _last(p) + 1 > SEATS:
        raise TooMany("seats")
    return [_set_of(p, number) for number in range(_last(p) + 1)]


def _look_at_prime(p):
    if not is_below(p, GREATEST + 1) or p < 2 or any([p % step == 0 for step in range(2, isqrt(p) + 1)]):
        raise NotPrime(p)


def _look_at_seat(p, seat):
    look_at_seat(seat, _last(p) + 1)


def _look_at_set(p, number):
    if not is_below(number, _last(p) + 1):
        raise NoSet(number)


def _last(p):
    return p * (p + 1)


def _is_far(p, seat):
    return seat == _last(p) or seat % (p + 1) == p


def _is_upright(p, number):
    return number != _last(p) and number % (p + 1) == 0


def _far_seat(p, number):
    """The far seat of a set that is not the last one."""
    if _is_upright(p, number):
        return _last(p)
    return number - number % (p + 1) + p


def _seat_over(p, number, x):
    """The near seat over x of a set that slopes."""
    m, i = divmod(number, p + 1)
    return x * (p + 1) + (x * (m - x) + i) % p


def _set_through(p, far, near):
    """The number of the set in which a far seat and a near one stand."""
    x, j = divmod(near, p + 1)
    if far == _last(p):
        return x * (p + 1)
    m = far // (p + 1)
    # Counted from 1 to p, for 0 is that of the upright set.
    return m * (p + 1) + (j - x * (m - x) - 1) % p + 1


def _sets_through(p, far):
    """The numbers of all sets in which a far seat stands."""
    if far == _last(p):
        return [x * (p + 1) for x in range(p)] + [_last(p)]
    return [far - p + i for i in range(1, p + 1)] + [_last(p)]


def _set_of(p, number):
    if number == _last(p):
        return tuple([x * (p + 1) + p for x in range(p)] + [_last(p)])
    if _is_upright(p, number):
        return tuple([number + j for j in range(p)] + [_last(p)])
    return tuple(sorted([_seat_over(p, number, x) for x in range(p)] + [_far_seat(p, number)]))


def _inverse(number, p):
    """What leaves 1 modulo p when it is taken number times; number is none of p's multiples."""
    # By Fermat this is the number to the power of p - 2.
    power = p - 2
    square = number % p
    found = 1
    while power > 0:
        if power % 2 == 1:
            found = found * square % p
        square = square * square % p
        power //= 2
    return found
