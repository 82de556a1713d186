"""Halls of machines: what is done in them, and their logs."""

from soleseat.base.errors import BadDeed, BadHall, Fallen, NeverAsks, NoFalls, NotIn, NotOut
from soleseat.base.letters import END_MARK
from soleseat.base.post import SEATS, Post, look_at_seat
from soleseat.base.seats import Seat
from soleseat.base.whole import is_below

CALM = 10000
# How many seats stand behind the word of each deed.
DEEDS = {"ask": 1, "leave": 1, "carry": 2, "fall": 1}


class Hall:
    """The machines of all seats, the post between them, and the log."""

    def __init__(self, machines, *, falls=False, askers=None):
        _look_at_machines(machines)
        self.seats = len(machines)
        self._machines = list(machines)
        self._falls = falls
        self._askers = self.seats if askers is None else askers
        self._post = Post(self.seats)
        self._log = []
        self._runs = []
        for machine in self._machines:
            machine.sits = True

    def ask(self, seat):
        """Let a seat ask; the rows of it, as each deed tells them."""
        machine = self._living(seat)
        if seat >= self._askers:
            raise NeverAsks(seat)
        if machine.state != "out":
            raise NotOut(seat)
        return self._told(("ask", seat), seat, "out", machine.ask())

    def leave(self, seat):
        """Let a seat leave."""
        machine = self._living(seat)
        if machine.state != "in":
            raise NotIn(seat)
        return self._told(("out", seat), seat, "in", machine.leave())

    def carry(self, a, b):
        """Let the first letter or end mark on the road from a come to b."""
        letter = self._post.first(a, b)
        machine = self._machines[b]
        was = machine.state
        # The machine is asked ahead of the post: where it refuses, the letter stays on its road.
        if letter == END_MARK:
            row = ("gone", a, b)
            sends = machine.gone(a)
        else:
            row = ("came", a, b, letter)
            sends = machine.hear(a, letter)
        self._post.carry(a, b)
        return self._told(row, b, was, sends)

    def fall(self, seat):
        """Let a seat fall."""
        look_at_seat(seat, self.seats)
        if not self._falls:
            raise NoFalls()
        self._post.fall(seat)
        row = ("fell", seat)
        self._log.append(row)
        return [row]

    def run(self, deeds):
        """Do deeds, told as tuples, one by one, until one is refused."""
        number = len(self._runs)
        self._runs.append(0)
        rows = []
        for at, deed in enumerate(deeds):
            if not _is_deed(deed):
                raise BadDeed(at)
            rows.extend(self._do(deed))
            # Counted one by one, for a refusal ends the run anywhere.
            self._runs[number] += 1
        return rows

    def runs(self):
        """For each run how many of its deeds were done."""
        return list(self._runs)

    def calm(self, *, most=CALM):
        """Carry, and let leave where nothing is under way, until the hall is still."""
        rows = []
        done = 0
        while done < most and not self.still():
            rows.extend(self._calm_deed())
            done += 1
        return rows

    def rows(self):
        """The whole log."""
        return list(self._log)

    def state_of(self, seat):
        """out, asking, in or fallen."""
        if self._post.has_fallen(seat):
            return "fallen"
        return self._machines[seat].state

    def within(self):
        """The seats that are in, rising."""
        return self._seats_that_are("in")

    def waiters(self):
        """The seats that are asking, rising."""
        return self._seats_that_are("asking")

    def letters(self, a, b):
        """What is on the road from a to b, in order."""
        return self._post.letters(a, b)

    def roads(self):
        """The pairs (a, b) of all roads that have something, rising."""
        return self._post.roads()

    def under_way(self):
        """All that is under way, as (a, b, letter), road by road."""
        return self._post.under_way()

    def still(self):
        """Whether nothing is under way and nobody is in."""
        return self._post.first_road() is None and len(self.within()) == 0

    def machine_of(self, seat):
        """The machine of a seat, to be looked at alone."""
        look_at_seat(seat, self.seats)
        return self._machines[seat]

    def __len__(self):
        return len(self._machines)

    def __str__(self):
        return " ".join([self.state_of(seat) for seat in range(self.seats)])

    def _living(self, seat):
        """The machine of a seat that has not fallen."""
        if self._post.has_fallen(seat):
            raise Fallen(seat)
        return self._machines[seat]

    def _told(self, row, seat, was, sends):
        """Put what a seat sends in a deed, and add the rows of the deed to the log."""
        rows = [row]
        for to, letter in sends:
            self._post.put(seat, to, letter)
            rows.append(("put", seat, to, letter))
        if was != "in" and self._machines[seat].state == "in":
            rows.append(("in", seat))
        self._log.extend(rows)
        return rows

    def _do(self, deed):
        word = deed[0]
        if word == "ask":
            return self.ask(deed[1])
        if word == "leave":
            return self.leave(deed[1])
        if word == "carry":
            return self.carry(deed[1], deed[2])
        return self.fall(deed[1])

    def _calm_deed(self):
        road = self._post.first_road()
        if road is None:
            return self.leave(self.within()[0])
        return self.carry(road[0], road[1])

    def _seats_that_are(self, state):
        return [seat for seat in range(self.seats) if self.state_of(seat) == state]


def tally(rows):
    """For each word of letters, rising, how many letters of it are put in the rows."""
    many = {}
    for row in rows:
        if row[0] == "put":
            word = row[3][0]
            many[word] = many.get(word, 0) + 1
    return {word: many[word] for word in sorted(many)}


def _look_at_machines(machines):
    if not isinstance(machines, list) or not 1 <= len(machines) <= SEATS:
        raise BadHall(0, "many")
    for place, machine in enumerate(machines):
        why = _machine_fault(machine, place)
        if why is not None:
            raise BadHall(place, why)


def _machine_fault(machine, place):
    """Why a machine, of anything, cannot sit at a place, or None."""
    if not isinstance(machine, Seat):
        return "machine"
    if not is_below(machine.me, SEATS) or machine.me != place:
        return "me"
    if machine.state != "out":
        return "state"
    if machine.sits is not False:
        return "sits"
    return None


def _is_deed(thing):
    if not isinstance(thing, tuple) or len(thing) == 0 or not isinstance(thing[0], str):
        return False
    return DEEDS.get(thing[0]) == len(thing) - 1
