"""The machines that tell what a seat does."""

from soleseat.base.errors import BadPlay
from soleseat.base.letters import is_letter
from soleseat.base.whole import is_below

MOST = 200


class Seat:
    """A machine that heeds nobody; other ones stand under it."""

    def __init__(self, me):
        self.me = me
        self.state = "out"
        self.sits = False

    def ask(self):
        """Ask for the place; what is to be sent, pairs (to, letter)."""
        self.state = "in"
        return []

    def leave(self):
        """Leave the place; what is to be sent."""
        self.state = "out"
        return []

    def hear(self, sender, letter):
        """Hear a letter; what is to be sent."""
        return []

    def gone(self, seat):
        """Hear a seat's end mark; what is to be sent."""
        return []


class Puppet(Seat):
    """A machine that does as its plays tell, one by one."""

    def __init__(self, me, seats, plays):
        super().__init__(me)
        fault = _plays_fault(plays, seats)
        if fault is not None:
            raise BadPlay(fault)
        self._plays = [(goes, list(sends)) for goes, sends in plays]
        self._played = 0

    def ask(self):
        """Take the next play: in where it goes, else asking."""
        goes, sends = self._next_play()
        self.state = "in" if goes else "asking"
        return sends

    def leave(self):
        """Take the next play: out, whatever it tells."""
        _, sends = self._next_play()
        self.state = "out"
        return sends

    def hear(self, sender, letter):
        """Take the next play: in where it goes and the puppet is asking."""
        return self._heard()

    def gone(self, seat):
        """Take the next play, as for a letter heard."""
        return self._heard()

    def unplayed(self):
        """How many plays are left."""
        return len(self._plays) - self._played

    def _heard(self):
        goes, sends = self._next_play()
        if goes and self.state == "asking":
            self.state = "in"
        return sends

    def _next_play(self):
        if self.unplayed() == 0:
            return True, []
        goes, sends = self._plays[self._played]
        self._played += 1
        return goes, list(sends)


def _plays_fault(plays, seats):
    """None of plays for a hall of so many seats; else the first place, of anything, that holds none."""
    if not isinstance(plays, list):
        return 0
    for at, play in enumerate(plays):
        if at == MOST or not _is_play(play, seats):
            return at
    return None


def _is_play(thing, seats):
    if not isinstance(thing, tuple) or len(thing) != 2:
        return False
    goes, sends = thing
    if not isinstance(goes, bool) or not isinstance(sends, list):
        return False
    return all([_is_send(send, seats) for send in sends])


def _is_send(thing, seats):
    if not isinstance(thing, tuple) or len(thing) != 2:
        return False
    return is_below(thing[0], seats) and is_letter(thing[1])
