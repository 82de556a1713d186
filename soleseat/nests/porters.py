"""The machines of nests: members, which are leaves, and porters, which ask for the branches."""

from soleseat.base.seats import Seat

PLEASE = ("please",)
YOURS = ("yours",)
DONE = ("done",)


class Member(Seat):
    """A leaf's machine: it goes in by the machine of its branch's hall, then by the porter of that branch."""

    def __init__(self, me, inner, mates, porter):
        super().__init__(me)
        self.inner = inner
        self.porter = porter
        self._mates = list(mates)

    def ask(self):
        """Ask in the branch's hall."""
        sends = sent_by(self.inner.ask(), self._mates)
        self.state = "asking"
        return sends + self._come_in("out")

    def leave(self):
        """Tell the porter, and leave the branch's hall."""
        sends = sent_by(self.inner.leave(), self._mates)
        self.state = "out"
        if self.porter is None:
            return sends
        return [(self.porter, DONE)] + sends

    def hear(self, sender, letter):
        """Hear a letter of the branch's hall, or that the porter is in."""
        if sender == self.porter:
            self.state = "in"
            return []
        was = self.inner.state
        sends = sent_by(self.inner.hear(self._mates.index(sender), letter), self._mates)
        return sends + self._come_in(was)

    def gone(self, seat):
        """Heed no end mark, for in nests nobody falls."""
        return []

    def _come_in(self, was):
        """As the inner machine comes in: be in, or ask the porter."""
        if was == "in" or self.inner.state != "in":
            return []
        if self.porter is None:
            self.state = "in"
            return []
        return [(self.porter, PLEASE)]


class Porter(Seat):
    """A branch's machine, never in itself: it asks in the hall above for one seat of its branch's parts at a time."""

    def __init__(self, me, inner, mates, porter):
        super().__init__(me)
        self.inner = inner
        self.porter = porter
        self.serves = None
        self._mates = list(mates)
        self._waits = None

    def ask(self):
        """Stay out: a porter never asks for itself."""
        return []

    def leave(self):
        """Stay out: a porter is never in."""
        return []

    def hear(self, sender, letter):
        """Hear a letter of the hall above, of the porter above, or of a seat of the branch's parts."""
        if sender == self.porter:
            return [(self.serves, YOURS)]
        if sender in self._mates:
            was = self.inner.state
            sends = sent_by(self.inner.hear(self._mates.index(sender), letter), self._mates)
            return sends + self._come_in(was)
        if letter == PLEASE:
            return self._hear_please(sender)
        return self._hear_done()

    def gone(self, seat):
        """Heed no end mark, for in nests nobody falls."""
        return []

    def _hear_please(self, sender):
        if self.serves is None:
            return self._serve(sender)
        self._waits = sender
        return []

    def _hear_done(self):
        sends = sent_by(self.inner.leave(), self._mates)
        if self.porter is not None:
            sends = [(self.porter, DONE)] + sends
        self.serves = None
        if self._waits is None:
            return sends
        sender = self._waits
        self._waits = None
        return sends + self._serve(sender)

    def _serve(self, sender):
        sends = sent_by(self.inner.ask(), self._mates)
        self.serves = sender
        return sends + self._come_in("out")

    def _come_in(self, was):
        """As the inner machine comes in: let the seat that is served be in, or ask the porter above."""
        if was == "in" or self.inner.state != "in":
            return []
        if self.porter is None:
            return [(self.serves, YOURS)]
        return [(self.porter, PLEASE)]


def sent_by(sends, mates):
    """What a machine of a branch's hall sends, from seat to seat of the nest."""
    return [(mates[part], letter) for part, letter in sends]
