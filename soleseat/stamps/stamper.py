"""Machines that go in by the stamps of their asks."""

from soleseat.base.seats import Seat

FIRST = 0


class Stamper(Seat):
    """A machine that asks each other one, and lets those ahead of it go first."""

    def __init__(self, me, seats, *, count=FIRST):
        super().__init__(me)
        self.count = count
        self.stamp = None
        self._seats = seats
        self._awaits = []
        self._holds = []
        self._told_gone = []

    def ask(self):
        """Take a stamp, and ask each other seat that is not told gone."""
        self.count += 1
        self.stamp = (self.count, self.me)
        away = [self.me] + self._told_gone
        self._awaits = [seat for seat in range(self._seats) if seat not in away]
        self.state = "asking"
        self._come_in_where_none_is_awaited()
        return [(seat, ("ask", self.count)) for seat in self._awaits]

    def leave(self):
        """Answer all that are held."""
        answers = [self._yes(seat) for seat in self._holds]
        self._holds = []
        self.stamp = None
        self.state = "out"
        return answers

    def hear(self, sender, letter):
        """Hear an ask or a yes."""
        self.count = max(self.count, letter[1])
        if letter[0] == "ask":
            return self._hear_ask(sender, letter[1])
        self._await_no_more(sender)
        return []

    def gone(self, seat):
        """Neither await nor hold a seat any more."""
        self._told_gone.append(seat)
        self._holds = [other for other in self._holds if other != seat]
        self._await_no_more(seat)
        return []

    def awaits(self):
        """The seats whose yes has not come, rising."""
        return list(self._awaits)

    def holds(self):
        """The seats that wait for a yes until this one leaves, in the order in which they came to be held."""
        return list(self._holds)

    def told_gone(self):
        """The seats whose end marks have come, rising."""
        return sorted(self._told_gone)

    def _hear_ask(self, sender, count):
        if self.state == "in" or (self.state == "asking" and self.stamp < (count, sender)):
            self._holds.append(sender)
            return []
        return [self._yes(sender)]

    def _yes(self, seat):
        return seat, ("yes", self.count)

    def _await_no_more(self, seat):
        self._awaits = [other for other in self._awaits if other != seat]
        self._come_in_where_none_is_awaited()

    def _come_in_where_none_is_awaited(self):
        if self.state == "asking" and len(self._awaits) == 0:
            self.state = "in"
