"""Machines that hand on a called key."""

from soleseat.base.post import look_at_seat
from soleseat.base.seats import Seat
from soleseat.calls.key import Key

FIRST = 0


class Caller(Seat):
    """A machine that calls for the key, hands it on, and makes it anew where it was lost by a fall."""

    def __init__(self, me, seats, *, first=FIRST):
        super().__init__(me)
        self.round = 0
        self._roster = list(range(seats))
        self._numbers = [0] * seats
        self._key = None
        if me == first:
            self._key = Key(0, [(seat, 0) for seat in range(seats)], [])
        # The round that it began last, and by seat what the pledges that count tell: (served, has).
        self._begun = None
        self._pledges = {}

    def ask(self):
        """Call all others for the key, or be in where it is here."""
        self._numbers[self.me] += 1
        if self._key is not None:
            self.state = "in"
            return []
        self.state = "asking"
        return self._to_others(("ask", self._numbers[self.me]))

    def leave(self):
        """Hand the key on."""
        self.state = "out"
        self._key.serve(self.me, self._numbers[self.me])
        return self._hand_on()

    def hear(self, sender, letter):
        """Hear an ask, a key, a round or a pledge."""
        word = letter[0]
        if word == "ask":
            return self._hear_ask(sender, letter[1])
        if word == "key":
            return self._hear_key(letter)
        if word == "round":
            return self._hear_round(sender, letter[1], letter[2])
        return self._hear_pledge(sender, letter)

    def gone(self, seat):
        """Strike a seat from the roster; the least one there begins a round."""
        self._roster = [other for other in self._roster if other != seat]
        if self._roster[0] != self.me:
            return []
        return self._begin()

    def bears(self):
        """(round, served, line) of the key that is here, or None."""
        if self._key is None:
            return None
        return self._key.told()

    def roster(self):
        """Itself and all seats whose end mark has not come, rising."""
        return list(self._roster)

    def numbers(self):
        """For each seat the greatest number of an ask that was heard."""
        return list(self._numbers)

    def awaits(self):
        """Those of the roster whose pledge for the round that it began last has not come, rising."""
        if self._begun is None:
            return []
        return [seat for seat in self._roster if seat not in self._pledges]

    def _to_others(self, letter):
        return [(seat, letter) for seat in self._roster if seat != self.me]

    def _learn(self, seat, number):
        self._numbers[seat] = max(self._numbers[seat], number)

    def _hear_ask(self, sender, number):
        self._learn(sender, number)
        if self._key is None or self.state == "in":
            return []
        return self._hand_on()

    def _hear_key(self, letter):
        if letter[1] >= self.round:
            self._key = Key(letter[1], letter[2], letter[3])
            self.state = "in"
        return []

    def _hear_round(self, sender, of_round, members):
        if of_round <= self.round:
            return []
        self.round = of_round
        return [(sender, self._pledge(of_round, members))]

    def _hear_pledge(self, sender, pledge):
        _, of_round, number, asks, has = pledge
        if of_round != self._begun:
            return []
        self._learn(sender, number)
        self._pledges[sender] = (number - asks, has)
        if len(self.awaits()) > 0 or any([told[1] == 1 for told in self._pledges.values()]):
            return []
        return self._make_key()

    def _begin(self):
        """Begin a round, and pledge to oneself without a letter."""
        self.round += 1
        self._begun = self.round
        self._pledges = {}
        members = tuple(self._roster)
        sends = self._to_others(("round", self.round, members))
        return sends + self._hear_pledge(self.me, self._pledge(self.round, members))

    def _pledge(self, of_round, members):
        """The pledge for a round, which a key of a lesser one comes to be of."""
        if self._key is not None and self._key.round < of_round:
            self._key.renew(of_round, members)
        asks = 1 if self.state == "asking" else 0
        has = 0 if self._key is None else 1
        return "pledge", of_round, self._numbers[self.me], asks, has

    def _make_key(self):
        self._key = Key(self._begun, [(seat, self._pledges[seat][0]) for seat in self._roster], [])
        return self._hand_on()

    def _hand_on(self):
        self._key.line_up(self.me, self._roster, self._numbers)
        to = self._key.take_first()
        if to is None:
            return []
        if to == self.me:
            self.state = "in"
            return []
        letter = ("key",) + self._key.told()
        self._key = None
        return [(to, letter)]


def callers(seats, *, first=FIRST):
    """A caller for each seat, the key at the first one's."""
    look_at_seat(first, seats)
    return [Caller(seat, seats, first=first) for seat in range(seats)]
