"""Asks and goings of a run, and whether two may be in at once."""

from soleseat.logs.known import chain, marks, past

ENDS = ("out", "fell")


def asks(run):
    """All asks, each as (seat, row of the ask, row of the in or None, row of the end or None)."""
    told = []
    # By seat: the place in told of its ask that is not ended.
    pending = {}
    for k, row in enumerate(run.rows()):
        word, seat = row[0], row[1]
        if word == "ask":
            pending[seat] = len(told)
            told.append((seat, k, None, None))
        elif word == "in":
            told[pending[seat]] = told[pending[seat]][:2] + (k, None)
        elif word in ENDS and seat in pending:
            place = pending.pop(seat)
            told[place] = told[place][:3] + (k,)
    return told


def goings(run):
    """The asks that have an in, by the ins."""
    return sorted([told for told in asks(run) if told[2] is not None], key=_in_of)


def sole(run):
    """Chains from going to going, or the first two that may be in at once, and the cut behind which both are."""
    chains = []
    told = goings(run)
    for k in range(len(told) - 1):
        end, later_in = told[k][3], told[k + 1][2]
        links = None if end is None else chain(run, end, later_in)
        if links is None:
            return "both", k, past(run, told[k][2]).joined(past(run, later_in))
        chains.append(links)
    return "sole", chains


def passed(run):
    """The pairs of places in asks(run), the first ask passed by the second, rising."""
    told = asks(run)
    marked = marks(run)
    places = range(len(told))
    return [(g, h) for g in places for h in places if _is_passed(told[g], told[h], marked)]


def _in_of(told):
    return told[2]


def _is_passed(first, second, marked):
    """Whether a first ask is known to a second one, and its seat still asks at the in of that."""
    seat = first[0]
    if second[2] is None or marked[first[1]][seat] > marked[second[1]][seat]:
        return False
    return _is_behind(first[2], second[2]) and _is_behind(first[3], second[2])


def _is_behind(row, other):
    """Whether a row, if it comes at all, comes behind another one."""
    return row is None or row > other
