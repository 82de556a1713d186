"""What the rows of a run know of one another."""

from soleseat.base.whole import is_below
from soleseat.logs.cuts import Cut
from soleseat.logs.errors import NoRow
from soleseat.logs.rows import seat_of


def past(run, j):
    """The cut of all rows that are known to row j."""
    _look_at_row(run, j)
    return Cut(list(_followers(run, 0, j)))


def known(run, i, j):
    """Whether row i is known to row j."""
    _look_at_row(run, i)
    _look_at_row(run, j)
    return i in _followers(run, i, j)


def chain(run, i, j):
    """A chain from row i to row j, or None."""
    _look_at_row(run, i)
    _look_at_row(run, j)
    followers = _followers(run, i, j)
    if i not in followers:
        return None
    links = [i]
    while links[-1] != j:
        links.append(followers[links[-1]])
    return links


def marks(run):
    """The marks of all rows, each with a number for each seat."""
    found = []
    for k, row in enumerate(run.rows()):
        mark = [0] * run.seats
        for ahead in run.straight(k):
            mark = [max(one, other) for one, other in zip(mark, found[ahead])]
        mark[seat_of(row)] += 1
        found.append(tuple(mark))
    return found


def closed(run, cut):
    """Whether a cut is closed in the run."""
    return all([_is_closed_at(run, cut, row) for row in cut.rows()])


def _look_at_row(run, row):
    """Refuse what is no row of the run, of anything."""
    if not is_below(row, len(run)):
        raise NoRow(row)


def _followers(run, i, j):
    """For each row from i on that is known to row j, one that follows it straight and is known to j, too; j for j."""
    followers = {j: j}
    # A row follows straight only rows ahead of it, so that one way back finds all.
    for row in range(j, i, -1):
        if row in followers:
            for ahead in run.straight(row):
                followers[ahead] = row
    return followers


def _is_closed_at(run, cut, row):
    """Whether a row of the cut is one of the run, and the cut has all that it follows straight."""
    return is_below(row, len(run)) and all([cut.has(ahead) for ahead in run.straight(row)])
