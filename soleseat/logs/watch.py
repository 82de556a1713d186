"""What a log says of seats and roads up to a row of it."""

from soleseat.logs.rows import seat_of

# The state that a seat must have ahead of its row, and the one that it has behind it.
AHEAD = {"ask": "out", "in": "asking", "out": "in"}
BEHIND = {"ask": "asking", "in": "in", "out": "out", "fell": "fallen"}


class Watch:
    """The seats and roads behind the rows that it took, one by one."""

    def __init__(self):
        self._taken = 0
        self._states = {}
        # By seat: the number of its last row, and of its fall.
        self._last = {}
        self._fell = {}
        # By road: (number of the row, letter) of each put, how many of these have come, whether the end mark has.
        self._puts = {}
        self._came = {}
        self._gone = {}

    def fault(self, row):
        """The first fault due of a row that comes next, its shape looked at ahead, or None."""
        word = row[0]
        state = self._state_of(seat_of(row))
        if state == "fallen":
            return "fallen"
        if word in AHEAD and state != AHEAD[word]:
            return "turn"
        if word == "came" and not self._may_come(row[1], row[2], row[3]):
            return "road"
        if word == "gone" and not self._may_be_gone(row[1], row[2]):
            return "road"
        if word == "in" and self._is_somebody_in():
            return "two"
        return None

    def take(self, row):
        """Take the next row, which has no fault but perhaps two; the numbers of the rows that it follows straight."""
        seat = seat_of(row)
        follows = []
        if seat in self._last:
            follows.append(self._last[seat])
        if row[0] == "put":
            self._take_put(row)
        elif row[0] == "came":
            follows.append(self._take_came(row))
        elif row[0] == "gone":
            self._gone[(row[1], row[2])] = True
            follows.append(self._fell[row[1]])
        else:
            self._take_turn(row)
        self._last[seat] = self._taken
        self._taken += 1
        return sorted(set(follows))

    def _take_put(self, row):
        puts = self._puts.setdefault((row[1], row[2]), [])
        puts.append((self._taken, row[3]))

    def _take_came(self, row):
        """The number of the put that came."""
        road = (row[1], row[2])
        came = self._came.get(road, 0)
        self._came[road] = came + 1
        return self._puts[road][came][0]

    def _take_turn(self, row):
        self._states[row[1]] = BEHIND[row[0]]
        if row[0] == "fell":
            self._fell[row[1]] = self._taken

    def _state_of(self, seat):
        return self._states.get(seat, "out")

    def _lying(self, a, b):
        """The first put of those that lie on the road from a to b, in a list, or an empty one."""
        came = self._came.get((a, b), 0)
        return self._puts.get((a, b), [])[came:came + 1]

    def _may_come(self, a, b, letter):
        lying = self._lying(a, b)
        return len(lying) > 0 and lying[0][1] == letter

    def _may_be_gone(self, a, b):
        if self._state_of(a) != "fallen" or (a, b) in self._gone:
            return False
        return len(self._lying(a, b)) == 0

    def _is_somebody_in(self):
        return any([state == "in" for state in self._states.values()])
