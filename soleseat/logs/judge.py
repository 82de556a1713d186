"""Whether a log is a run, and sound."""

from soleseat.base.post import SEATS
from soleseat.logs.rows import is_row
from soleseat.logs.watch import Watch


def judge(log, *, seats=SEATS, crowd=False):
    """None, or the number and the fault of the first row that has one; with crowd the fault two is none."""
    watch = Watch()
    for at, row in enumerate(log):
        if not is_row(row, seats=seats):
            return at, "shape"
        fault = watch.fault(row)
        if fault is not None and not (crowd and fault == "two"):
            return at, fault
        watch.take(row)
    return None
