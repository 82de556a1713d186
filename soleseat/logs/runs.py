"""Runs: logs whose rows may stand so."""

from soleseat.base.post import SEATS
from soleseat.base.whole import is_below
from soleseat.logs.errors import NoLine, NoRow, Unsound
from soleseat.logs.judge import judge
from soleseat.logs.rows import number_of, row_of_line, row_text
from soleseat.logs.watch import Watch


class Run:
    """A log without a fault but two in at once, kept as it was handed in."""

    def __init__(self, log, *, seats=SEATS):
        rows = list(log)
        found = judge(rows, seats=seats, crowd=True)
        if found is not None:
            raise Unsound(found[0], found[1])
        self.seats = seats
        self._rows = rows
        self._straight = []
        watch = Watch()
        for row in rows:
            self._straight.append(watch.take(row))

    def rows(self):
        """All rows, in order."""
        return list(self._rows)

    def straight(self, k):
        """The numbers of the rows that row k follows straight, rising."""
        if not is_below(k, len(self._rows)):
            raise NoRow(k)
        return list(self._straight[k])

    def __len__(self):
        return len(self._rows)

    def __eq__(self, other):
        return isinstance(other, Run) and self.seats == other.seats and self._rows == other._rows

    def __str__(self):
        lines = [f"seats {self.seats}"] + [row_text(row) for row in self._rows]
        return "".join([f"{line}\n" for line in lines])


def read_run(text):
    """The run that a text writes."""
    lines = text.split("\n")
    seats = _seats_of_line(lines[0])
    if seats is None:
        raise NoLine(1)
    # What is left behind the last line end is a line without one, and never written so.
    ended = len(lines) - 1
    rows = [row_of_line(line) for line in lines[1:ended]]
    for at, row in enumerate(rows):
        if row is None:
            raise NoLine(at + 2)
    if lines[ended] != "":
        raise NoLine(ended + 1)
    return Run(rows, seats=seats)


def _seats_of_line(line):
    """The number of seats that the first line of a run writes, or None."""
    many = number_of(line.removeprefix("seats "))
    if many is None or not 1 <= many <= SEATS or line != f"seats {many}":
        return None
    return many
