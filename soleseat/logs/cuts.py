"""Cuts: sets of rows."""


class Cut:
    """A set of rows, told by their numbers."""

    def __init__(self, rows=()):
        self._rows = sorted(set(rows))
        self._held = {row: True for row in self._rows}

    def rows(self):
        """The rows, rising, each once."""
        return list(self._rows)

    def has(self, row):
        """Whether a row is in the cut."""
        return row in self._held

    def joined(self, other):
        """The cut of the rows of either."""
        return Cut(self._rows + other.rows())

    def shared(self, other):
        """The cut of the rows of both."""
        return Cut([row for row in self._rows if other.has(row)])

    def __len__(self):
        return len(self._rows)

    def __eq__(self, other):
        return isinstance(other, Cut) and self._rows == other._rows

    def __str__(self):
        if len(self._rows) == 0:
            return "none"
        return " ".join([_stretch_text(first, last) for first, last in self._stretches()])

    def _stretches(self):
        """The first and last row of each stretch of rows without a gap."""
        firsts = [row for row in self._rows if row - 1 not in self._held]
        lasts = [row for row in self._rows if row + 1 not in self._held]
        return list(zip(firsts, lasts))


def _stretch_text(first, last):
    if first == last:
        return str(first)
    return f"{first}-{last}"
