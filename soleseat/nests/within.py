"""The logs of the halls within a nest, taken out of the nest's log."""

from soleseat.nests.nest import branch_at, part_seats, seats_by_path
from soleseat.nests.porters import DONE, PLEASE, YOURS


class Within:
    """The hall within a branch, as the rows of its nest up to some row show it."""

    def __init__(self, parts, porter):
        self._parts = parts
        self._porter = porter
        # The porters among the parts that serve a seat, and whether another one waits there.
        self._waits = {}

    def rows_of(self, row):
        """The rows of the hall within that a row of the nest adds to its log."""
        if row[0] == "put":
            return self._put(row[1], row[2], row[3])
        if row[0] == "came":
            return self._carried(row[1], row[2], row[3])
        if row[1] not in self._parts or (row[0] == "in" and self._porter is not None):
            return []
        return [(row[0], self._parts[row[1]])]

    def _put(self, a, b, letter):
        if a not in self._parts:
            return []
        if b in self._parts:
            return [("put", self._parts[a], self._parts[b], letter)]
        # A part is in as it asks the porter above; in the whole's own hall a porter is, as it lets in whom it serves.
        if letter == PLEASE and b == self._porter or letter == YOURS and self._porter is None:
            return [("in", self._parts[a])]
        return []

    def _carried(self, a, b, letter):
        if b not in self._parts:
            return []
        part = self._parts[b]
        if a in self._parts:
            return [("came", self._parts[a], part, letter)]
        if letter == PLEASE:
            return self._hear_please(b, part)
        if letter == DONE:
            return self._hear_done(b, part)
        return []

    def _hear_please(self, porter, part):
        if porter in self._waits:
            self._waits[porter] = True
            return []
        self._waits[porter] = False
        return [("ask", part)]

    def _hear_done(self, porter, part):
        if self._waits[porter]:
            self._waits[porter] = False
            return [("out", part), ("ask", part)]
        del self._waits[porter]
        return [("out", part)]


def hall_log(plan, log, path):
    """The log of the hall within the branch at a path."""
    branch = branch_at(plan, path)
    seats = seats_by_path(plan)
    parts = {seat: part for part, seat in enumerate(part_seats(seats, branch, path))}
    hall = Within(parts, seats.get(path))
    rows = []
    for row in log:
        rows.extend(hall.rows_of(row))
    return rows
