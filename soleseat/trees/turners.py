"""Machines that let the key go along a tree that turns with each wish."""

from soleseat.base.hall import Hall
from soleseat.trees.tree import FIRST
from soleseat.trees.twigs import KeySeat


class Turner(KeySeat):
    """A machine that knows whom it takes for the last that asked, and who gets the key behind it."""

    def __init__(self, me, up):
        super().__init__(me)
        self.up = up
        self.behind = None
        self.keyed = up == me

    def has_key(self):
        """Whether the key is here."""
        return self.keyed

    def ask(self):
        """Be in where nobody else asked last; else wish for the key, and be the last that asked."""
        if self.up == self.me:
            self.state = "in"
            return []
        self.state = "asking"
        up = self.up
        self.up = self.me
        return [(up, ("wish", self.me))]

    def leave(self):
        """Be out, and give the key to who is behind."""
        self.state = "out"
        if self.behind is None:
            return []
        behind = self.behind
        self.behind = None
        self.keyed = False
        return [(behind, ("key",))]

    def hear(self, sender, letter):
        """Hear a wish, or get the key."""
        if letter[0] == "wish":
            return self._hear_wish(letter[1])
        self.keyed = True
        self.state = "in"
        return []

    def gone(self, seat):
        """Heed no end mark."""
        return []

    def _hear_wish(self, who):
        up = self.up
        self.up = who
        if up != self.me:
            return [(up, ("wish", who))]
        if self.state == "out":
            self.keyed = False
            return [(who, ("key",))]
        self.behind = who
        return []


def turners(tree, *, key=FIRST):
    """A turner for each seat of a tree, the key at one of them and the ups leading there."""
    return [Turner(seat, up) for seat, up in enumerate(tree.hung(key).told_ups())]


def turner_hall(tree, *, key=FIRST, falls=False):
    """A hall of turners."""
    return Hall(turners(tree, key=key), falls=falls)
