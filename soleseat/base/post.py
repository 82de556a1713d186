"""The roads between the seats, and what is under way on them."""

from soleseat.base.errors import BadLetter, Fallen, NoLetter, NoSeat
from soleseat.base.letters import END_MARK, letter_fault
from soleseat.base.whole import is_below

SEATS = 60


def look_at_seat(seat, seats):
    """Refuse what is none of so many seats, of anything."""
    if not is_below(seat, seats):
        raise NoSeat(seat)


def look_at_many(seats):
    """Refuse what is no number of seats from 1 to SEATS, of anything."""
    if not is_below(seats, SEATS + 1) or seats == 0:
        raise NoSeat(seats)


class Post:
    """What is under way on the roads of some seats."""

    def __init__(self, seats):
        look_at_many(seats)
        self.seats = seats
        self._fallen = [False] * seats
        # For each seat a dict: to whom it has something under way, and what, in order.
        # No list in it is empty, so that two posts with the same roads are equal.
        self._roads = [{} for _ in range(seats)]

    def put(self, a, b, letter):
        """Put a letter on the road from a to b, its last one then."""
        self._look_at_road(a, b)
        fault = letter_fault(letter)
        if fault is not None:
            raise BadLetter(fault)
        if self._fallen[a]:
            raise Fallen(a)
        if not self._fallen[b]:
            self._lay(a, b, letter)

    def carry(self, a, b):
        """Take off the first letter or end mark of the road from a to b."""
        first = self.first(a, b)
        road = self._roads[a][b]
        road.pop(0)
        if len(road) == 0:
            del self._roads[a][b]
        return first

    def fall(self, seat):
        """Let a seat fall: nothing comes to it any more, and its end marks go out."""
        look_at_seat(seat, self.seats)
        if self._fallen[seat]:
            raise Fallen(seat)
        self._fallen[seat] = True
        for a in range(self.seats):
            self._roads[a].pop(seat, None)
        for b in range(self.seats):
            if not self._fallen[b]:
                self._lay(seat, b, END_MARK)

    def first(self, a, b):
        """What is first on the road from a to b; it stays there."""
        self._look_at_road(a, b)
        if b not in self._roads[a]:
            raise NoLetter(a, b)
        return self._roads[a][b][0]

    def first_road(self):
        """The least pair (a, b) of a road that has something, or None."""
        for a in range(self.seats):
            if len(self._roads[a]) > 0:
                return a, min(list(self._roads[a]))
        return None

    def has_fallen(self, seat):
        """Whether a seat has fallen."""
        look_at_seat(seat, self.seats)
        return self._fallen[seat]

    def letters(self, a, b):
        """What is on the road from a to b, in order."""
        self._look_at_road(a, b)
        return list(self._roads[a].get(b, []))

    def roads(self):
        """The pairs (a, b) of all roads that have something, rising."""
        return [(a, b) for a in range(self.seats) for b in sorted(self._roads[a])]

    def under_way(self):
        """All that is under way, as (a, b, letter), road by road."""
        return [(a, b, letter) for a, b in self.roads() for letter in self._roads[a][b]]

    def __len__(self):
        return len(self.under_way())

    def __eq__(self, other):
        # Both lists have a place for each seat, so they tell the number of seats, too.
        return isinstance(other, Post) and self._fallen == other._fallen and self._roads == other._roads

    def __str__(self):
        return f"{self.seats} seats, {len(self)} under way"

    def _look_at_road(self, a, b):
        look_at_seat(a, self.seats)
        look_at_seat(b, self.seats)

    def _lay(self, a, b, letter):
        road = self._roads[a].setdefault(b, [])
        road.append(letter)
