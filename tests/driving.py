"""Halls driven by deeds of a fixed seed."""

import random


class Drive:
    """A hall, and chance deeds that are never refused."""

    def __init__(self, hall, seed, *, falls=0, asks=8, look=None, askers=60):
        self.hall = hall
        self.chance = random.Random(seed)
        # How many may still fall, and how many asks may still come.
        self.falls = falls
        self.asks = asks
        self.look = look
        self.askers = askers
        # Some roads are slow, so that letters of other roads come ahead of theirs.
        self.slow = {(a, b) for a in range(hall.seats) for b in range(hall.seats) if self.chance.random() < 0.3}

    def living(self):
        return [seat for seat in range(self.hall.seats) if self.hall.state_of(seat) != "fallen"]

    def some_deed(self):
        """A deed that may be done now, or None."""
        hall, chance = self.hall, self.chance
        out = [seat for seat in self.living() if hall.state_of(seat) == "out" and seat < self.askers]
        deeds = []
        if self.asks > 0 and out:
            deeds += [("ask", chance.choice(out))] * 2
        if hall.within():
            deeds += [("leave", chance.choice(hall.within()))]
        if self.falls > 0 and self.living() and chance.random() < 0.15:
            deeds += [("fall", chance.choice(self.living()))]
        roads = hall.roads()
        quick = [road for road in roads if road not in self.slow]
        if quick:
            deeds += [("carry",) + chance.choice(quick)] * 5
        if roads and (not quick or chance.random() < 0.1):
            deeds += [("carry",) + chance.choice(roads)] * 2
        return chance.choice(deeds) if deeds else None

    def go(self, steps=10 ** 6):
        """At most so many deeds; fewer where nothing is left to be done. The hall is told back."""
        for _ in range(steps):
            deed = self.some_deed()
            if deed is None:
                break
            self.falls -= deed[0] == "fall"
            self.asks -= deed[0] == "ask"
            self.do(deed)
        return self.hall

    def do(self, deed):
        self.hall.run([deed])
        if self.look is not None:
            self.look(self.hall)


def machines_of(hall):
    return [hall.machine_of(seat) for seat in range(len(hall))]


def fallen_of(hall):
    return [seat for seat in range(len(hall)) if hall.state_of(seat) == "fallen"]
