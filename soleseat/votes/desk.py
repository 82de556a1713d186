"""Desks: who has a seat's vote, and who waits for it."""


class Desk:
    """One vote, the stamp that has it, and those that wait for it."""

    def __init__(self):
        self.holder = None
        self.queue = ()
        self.called = False

    def take_ask(self, stamp):
        """Let a stamp wait; what is to be sent, as each deed tells it."""
        self.queue = tuple(sorted(self.queue + (stamp,)))
        if self.holder is not None and stamp < self.holder and not self.called:
            self.called = True
            return [("back", self.holder)]
        return self._give_the_free_vote()

    def take_given(self, stamp):
        """Take the vote back from a stamp that waits again."""
        if stamp == self.holder:
            self.queue = tuple(sorted(self.queue + (stamp,)))
            self._free()
        return self._give_the_free_vote()

    def take_done(self, stamp):
        """Take the vote back from a stamp, or let it wait no more."""
        if stamp == self.holder:
            self._free()
        else:
            self.queue = tuple([other for other in self.queue if other != stamp])
        return self._give_the_free_vote()

    def take_gone(self, seat):
        """Forget all stamps of a seat."""
        self.queue = tuple([stamp for stamp in self.queue if stamp[1] != seat])
        if self.holder is not None and self.holder[1] == seat:
            self._free()
        return self._give_the_free_vote()

    def __len__(self):
        return len(self.queue)

    def _free(self):
        self.holder = None
        self.called = False

    def _give_the_free_vote(self):
        if self.holder is not None or len(self.queue) == 0:
            return []
        self.holder = self.queue[0]
        self.queue = self.queue[1:]
        self.called = False
        return [("vote", self.holder)]
