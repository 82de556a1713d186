"""Machines that go in by the votes of a set."""

from soleseat.base.seats import Seat
from soleseat.votes.desk import Desk
from soleseat.votes.errors import Barred


class Voter(Seat):
    """A machine that wants the votes of all seats of a set, and has a vote of its own."""

    def __init__(self, me, sets, *, first=None, count=0):
        super().__init__(me)
        self.count = count
        self.stamp = None
        self.hand = ()
        self.known = ()
        self.desk = Desk()
        self._sets = list(sets)
        self._first = me if first is None else first
        # The set whose votes it wants while it asks or is in.
        self._set = ()

    def ask(self):
        """Ask the seats of the free set for their votes."""
        number = self.free_set()
        if number is None:
            raise Barred(self.me)
        self.count += 1
        self.state = "asking"
        return self._want(number, (self.count, self.me, 0))

    def leave(self):
        """Give all votes back."""
        sends = self._done()
        self._be_out()
        return sends

    def hear(self, sender, letter):
        """Hear one of the five words."""
        word, stamp_count, turn = letter[:3]
        if word == "vote":
            return self._hear_vote(sender, (stamp_count, self.me, turn), letter[3])
        if word == "back":
            return self._hear_back(sender, (stamp_count, self.me, turn))
        stamp = (stamp_count, sender, turn)
        if word == "ask":
            self.count = max(self.count, stamp_count)
            return self._from_desk(self.desk.take_ask(stamp))
        if word == "given":
            return self._from_desk(self.desk.take_given(stamp))
        return self._from_desk(self.desk.take_done(stamp))

    def gone(self, seat):
        """Know that a seat has fallen, and turn to another set where it was in the own one."""
        self.known = tuple(sorted(self.known + (seat,)))
        sends = self._from_desk(self.desk.take_gone(seat))
        if self.state == "asking" and seat in self._set:
            sends = sends + self._done() + self._turn()
        return sends

    def free_set(self):
        """The number of the first set, from the own first one on, in which no known seat is; or None."""
        many = len(self._sets)
        for number in [(self._first + step) % many for step in range(many)]:
            if not any([seat in self.known for seat in self._sets[number]]):
                return number
        return None

    def _hear_vote(self, sender, stamp, count):
        self.count = max(self.count, count)
        if self.state == "asking" and stamp == self.stamp:
            self.hand = tuple(sorted(set(self.hand + (sender,))))
            if all([seat in self.hand for seat in self._set]):
                self.state = "in"
        return []

    def _hear_back(self, sender, stamp):
        if self.state != "asking" or stamp != self.stamp or sender not in self.hand:
            return []
        self.hand = tuple([seat for seat in self.hand if seat != sender])
        return [(sender, ("given", stamp[0], stamp[2]))]

    def _turn(self):
        """Ask another set with a new turn; without a free one be out."""
        number = self.free_set()
        if number is None:
            self._be_out()
            return []
        return self._want(number, (self.stamp[0], self.me, self.stamp[2] + 1))

    def _want(self, number, stamp):
        self._set = self._sets[number]
        self.stamp = stamp
        self.hand = ()
        return [(seat, ("ask", stamp[0], stamp[2])) for seat in self._set]

    def _done(self):
        """What tells the seats of the set, as far as they live for all that is known, that the stamp is done."""
        return [(seat, ("done", self.stamp[0], self.stamp[2])) for seat in self._set if seat not in self.known]

    def _be_out(self):
        self.state = "out"
        self.stamp = None
        self.hand = ()
        self._set = ()

    def _from_desk(self, deeds):
        return [(stamp[1], self._desk_letter(word, stamp)) for word, stamp in deeds]

    def _desk_letter(self, word, stamp):
        if word == "vote":
            return "vote", stamp[0], stamp[2], self.count
        return "back", stamp[0], stamp[2]
