"""The rows of logs, and how they are written."""

from soleseat.base.letters import is_letter
from soleseat.base.post import SEATS
from soleseat.base.whole import is_below
from soleseat.logs.errors import NoLine

# How many seats stand behind the word of each row.
WORDS = {"ask": 1, "in": 1, "out": 1, "fell": 1, "put": 2, "came": 2, "gone": 2}
# Behind the seats of these a letter stands last.
LETTERED = ("put", "came")
FIGURES = "0123456789"
MOST_FIGURES = 60


def is_row(thing, *, seats=SEATS):
    """Whether thing, of anything, is a row of a log of so many seats."""
    if not isinstance(thing, tuple) or len(thing) == 0 or not isinstance(thing[0], str):
        return False
    word = thing[0]
    if word not in WORDS:
        return False
    many = WORDS[word]
    if not all([is_below(part, seats) for part in thing[1:many + 1]]):
        return False
    if word in LETTERED:
        return len(thing) == many + 2 and is_letter(thing[many + 1])
    return len(thing) == many + 1


def seat_of(row):
    """The seat whose row it is."""
    if row[0] in ("came", "gone"):
        return row[2]
    return row[1]


def row_text(row):
    """The text of a row, without a line end."""
    parts = row
    if row[0] in LETTERED:
        parts = row[:3] + row[3]
    return " ".join([_part_text(part) for part in parts])


def read_row(line):
    """The row that a text writes, its seats below SEATS."""
    row = row_of_line(line)
    if row is None:
        raise NoLine(1)
    return row


def row_of_line(line):
    """The row that a text writes, or None."""
    row = _loose_row(line)
    # What was read loosely is held against the one text that writes it.
    if is_row(row) and row_text(row) == line:
        return row
    return None


def number_of(text):
    """The number that a text writes in at most 60 figures, or None; noughts ahead count for nothing."""
    if not 1 <= len(text) <= MOST_FIGURES or not all([sign in FIGURES for sign in text]):
        return None
    return int(text)


def _part_text(part):
    if isinstance(part, tuple):
        inner = " ".join([_part_text(thing) for thing in part])
        return f"({inner})"
    return str(part)


def _loose_row(line):
    """What a line may write, blanks and noughts not looked at: perhaps no row, or None."""
    parts = _parts(line.replace("(", " ( ").replace(")", " ) ").split())
    if parts is None or len(parts) == 0:
        return None
    if parts[0] in LETTERED:
        return tuple(parts[:3]) + (tuple(parts[3:]),)
    return tuple(parts)


def _parts(words):
    """Words as numbers, as tuples from bracket to bracket, or as they are; None where none is open to be closed."""
    # The last list gathers the parts of the innermost open bracket; what is never closed is lost.
    gathered = [[]]
    for word in words:
        if word == "(":
            gathered.append([])
        elif word != ")":
            number = number_of(word)
            gathered[-1].append(word if number is None else number)
        elif len(gathered) > 1:
            inner = tuple(gathered.pop())
            gathered[-1].append(inner)
        else:
            return None
    return gathered[0]
