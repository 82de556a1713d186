"""Weavings: the rows of a run in other orders."""

from soleseat.base.whole import is_below
from soleseat.logs.errors import NoOrder, NotClosed
from soleseat.logs.known import closed
from soleseat.logs.runs import Run


def woven(run, order):
    """The weaving in which at each place stands the row that the order has there."""
    at = _order_fault(run, order)
    if at is not None:
        raise NoOrder(at)
    return _in_order(run, order)


def laid_ahead(run, cut):
    """The weaving that lays a closed cut ahead."""
    if not closed(run, cut):
        raise NotClosed()
    others = [row for row in range(len(run)) if not cut.has(row)]
    return _in_order(run, cut.rows() + others)


def _in_order(run, order):
    rows = run.rows()
    return Run([rows[k] for k in order], seats=run.seats)


def _order_fault(run, order):
    """The first place at which the order weaves the run no further, or None."""
    stands = [False] * len(run)
    for at, row in enumerate(order):
        if not _may_stand(run, row, stands):
            return at
        stands[row] = True
    if not all(stands):
        return len(order)
    return None


def _may_stand(run, row, stands):
    """Whether what comes next, of anything, is a row that may stand behind those that stand."""
    if not is_below(row, len(run)) or stands[row]:
        return False
    return all([stands[ahead] for ahead in run.straight(row)])
