"""Machines that let the key go along a standing tree."""

from soleseat.base.hall import Hall
from soleseat.base.seats import Seat
from soleseat.trees.tree import FIRST


class KeySeat(Seat):
    """A machine that has the key, or has not; twigs and turners stand under it."""

    def has_key(self):
        """Whether the key is here."""
        return False


class Twig(KeySeat):
    """A machine that knows its neighbour towards the key, and who beside it waits for it."""

    def __init__(self, me, toward):
        super().__init__(me)
        self.toward = toward
        self.queue = ()
        self.sent = False

    def has_key(self):
        """Whether the key is here."""
        return self.toward == self.me

    def ask(self):
        """Wait for the key."""
        self.state = "asking"
        self.queue = self.queue + (self.me,)
        return self._go_on()

    def leave(self):
        """Be out, and let the key go on."""
        self.state = "out"
        return self._go_on()

    def hear(self, sender, letter):
        """Hear a neighbour's wish, or get the key."""
        if letter[0] == "wish":
            self.queue = self.queue + (sender,)
        else:
            self.toward = self.me
            self.sent = False
        return self._go_on()

    def gone(self, seat):
        """Heed no end mark."""
        return []

    def _go_on(self):
        """Give the key to the queue's first, then wish for it where somebody waits."""
        sends = []
        if self.has_key() and self.state != "in" and len(self.queue) > 0:
            first = self.queue[0]
            self.queue = self.queue[1:]
            if first == self.me:
                self.state = "in"
            else:
                self.toward = first
                sends.append((first, ("key",)))
        if not self.has_key() and len(self.queue) > 0 and not self.sent:
            self.sent = True
            sends.append((self.toward, ("wish",)))
        return sends


def twigs(tree, *, key=FIRST):
    """A twig for each seat of a tree, the key at one of them."""
    return [Twig(seat, tree.second(seat, key)) for seat in range(len(tree))]


def twig_hall(tree, *, key=FIRST, falls=False):
    """A hall of twigs."""
    return Hall(twigs(tree, key=key), falls=falls)
