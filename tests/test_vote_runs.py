"""Halls of voters, driven by deeds of a fixed seed, held against what holds in every run."""

import itertools
import random
import unittest

from driving import Drive, fallen_of, machines_of
from soleseat.base.hall import tally
from soleseat.logs.goings import asks, goings, sole
from soleseat.logs.judge import judge
from soleseat.logs.runs import Run
from soleseat.votes.errors import Barred
from soleseat.votes.halls import vote_hall


def some_family(chance, seats, meeting):
    """Some sets; each two of them share a seat where meeting is True."""
    sets = []
    for _ in range(12):
        one = tuple(sorted(chance.sample(range(seats), chance.randrange(1, seats + 1))))
        if one not in sets and (not meeting or all(set(one) & set(other) for other in sets)):
            sets.append(one)
        if len(sets) == 5:
            break
    return sets


class VoteDrive(Drive):
    """A drive in which asks may be refused with Barred."""

    def __init__(self, *handed, **more):
        super().__init__(*handed, **more)
        self.barred = []

    def do(self, deed):
        try:
            super().do(deed)
        except Barred as error:
            assert deed == ("ask", error.seat)
            self.barred.append(error.seat)


class Story:
    def __init__(self, seed, *, falls, meeting, firsts_meet=False):
        chance = random.Random(seed)
        self.seats = chance.randrange(1, 8)
        self.sets = some_family(chance, self.seats, meeting)
        self.firsts = None
        if firsts_meet or chance.random() < 0.5:
            self.firsts = self.some_firsts(chance, firsts_meet)
        counts = [chance.randrange(6) for _ in range(chance.randrange(self.seats + 1))]
        self.hall = vote_hall(self.seats, self.sets, firsts=self.firsts, counts=counts, falls=falls)
        self.machines = machines_of(self.hall)
        # By stamp: the set that it asks, and how many rows there were when its seat was last seen to ask with it.
        self.sets_of = {}
        self.until = {}
        self.drive = VoteDrive(self.hall, seed, falls=chance.randrange(self.seats + 1) if falls else 0,
                               asks=chance.randrange(2, 14), look=self.look)
        self.drive.go()
        self.log = self.hall.rows()
        self.run = Run(self.log, seats=self.seats)

    def some_firsts(self, chance, firsts_meet):
        numbers = list(range(len(self.sets)))
        if firsts_meet:
            good = []
            for number in numbers:
                if all(set(self.sets[number]) & set(self.sets[other]) for other in good):
                    good.append(number)
            numbers = good
        return [chance.choice(numbers) for _ in range(self.seats)]

    def look(self, hall):
        """What point 45 tells of the states, behind each deed."""
        fallen = fallen_of(hall)
        for seat, machine in enumerate(self.machines):
            if machine.state in ("asking", "in") and seat not in fallen:
                self.note(machine)
            if machine.state == "asking" and seat not in fallen:
                self.until[machine.stamp] = len(hall.rows())
            if machine.state == "in" and seat not in fallen:
                assert machine.hand == self.sets_of[machine.stamp]
                assert all(self.machines[other].desk.holder == machine.stamp
                           for other in machine.hand if other not in fallen)
            if machine.state == "out":
                assert machine.stamp is None and machine.hand == ()
            if seat not in fallen:
                desk = machine.desk
                assert desk.holder is not None or desk.queue == ()
                assert not desk.queue or desk.queue[0] > desk.holder or desk.called

    def note(self, machine):
        if machine.stamp not in self.sets_of:
            count, me, turn = machine.stamp
            asked = [row for row in self.hall.rows()
                     if row[:2] == ("put", me) and row[3] == ("ask", count, turn)]
            self.sets_of[machine.stamp] = tuple(row[2] for row in asked)

    def sets_of_goings(self):
        """The stamp and the set of each going, in their order."""
        told = []
        for going in goings(self.run):
            puts = [row for row in self.log[going[1]:going[2]] if row[:2] == ("put", going[0]) and row[3][0] == "ask"]
            count, turn = puts[-1][3][1:]
            seats = tuple(row[2] for row in puts if row[3] == puts[-1][3])
            told.append(((count, going[0], turn), seats))
        return told


QUIET = [Story(seed, falls=False, meeting=seed % 2 == 0) for seed in range(90)]
MEETING = [Story(seed, falls=seed % 3 > 0, meeting=True) for seed in range(200)]
FIRSTS = [Story(seed, falls=False, meeting=False, firsts_meet=True) for seed in range(80)]
ANY = [Story(seed, falls=True, meeting=False) for seed in range(90)]


class Runs(unittest.TestCase):
    def test_still_halls(self):
        for story in QUIET + MEETING + FIRSTS + ANY:
            self.assertTrue(story.hall.still())
            self.assertEqual(story.hall.waiters(), [])
            many = tally(story.log)
            self.assertLessEqual(sum(many.values()), 6 * many.get("ask", 0))

    def test_letters_without_falls(self):
        for story in QUIET + FIRSTS:
            many = tally(story.log)
            for word in ("ask", "done", "vote", "given", "back"):
                many.setdefault(word, 0)
            self.assertEqual(many["ask"], sum(len(there) for _, there in story.sets_of_goings()))
            self.assertEqual(many["ask"], many["done"])
            self.assertEqual(many["ask"], many["vote"] - many["given"])
            self.assertLessEqual(many["back"], many["ask"])
            self.assertLessEqual(many["given"], many["back"])

    def test_never_two_and_sole(self):
        for story in MEETING + FIRSTS:
            self.assertIsNone(judge(story.log, seats=story.seats))
            self.assertEqual(sole(story.run)[0], "sole")

    def test_sets_that_are_apart_may_let_two_in(self):
        self.assertTrue(any(judge(story.log, seats=story.seats) for story in QUIET + ANY))

    def test_last_votes_in_the_order_of_goings(self):
        for story in MEETING + FIRSTS:
            for (one, left), (two, right) in itertools.combinations(story.sets_of_goings(), 2):
                for seat in set(left) & set(right):
                    self.assertLess(self.last_vote(story, seat, one), self.last_vote(story, seat, two))

    def last_vote(self, story, seat, stamp):
        count, to, turn = stamp
        return max(at for at, row in enumerate(story.log)
                   if row[:3] == ("put", seat, to) and row[3][:3] == ("vote", count, turn))

    def test_in_at_most_twice_behind_all_asks(self):
        looked = 0
        for story in MEETING + FIRSTS:
            for stamp, there in story.sets_of.items():
                count, me, turn = stamp
                came = [at for at, row in enumerate(story.log)
                        if row[0] == "came" and row[1] == me and row[3] == ("ask", count, turn)]
                if len(came) < len(there):
                    continue
                ins = [row for row in story.log[came[-1]:story.until.get(stamp, 0)] if row[0] == "in"]
                looked += len(ins)
                for row in ins:
                    self.assertLessEqual(ins.count(row), 2)
        self.assertGreater(looked, 50)

    def test_barred_or_not(self):
        words = []
        for story in MEETING + ANY:
            fallen = fallen_of(story.hall)
            whole = any(not set(one) & set(fallen) for one in story.sets)
            words.append(whole)
            for seat in range(story.seats):
                if seat in fallen:
                    continue
                if whole:
                    self.assertNotIn(seat, story.drive.barred)
                    self.assertIsNotNone(story.machines[seat].free_set())
                else:
                    with self.assertRaises(Barred):
                        story.hall.ask(seat)
        self.assertGreater(words.count(True), 20)
        self.assertGreater(words.count(False), 20)

    def test_unserved_asks_have_no_row(self):
        found = 0
        for story in MEETING + ANY:
            for seat, ask, came_in, end in asks(story.run):
                if came_in is None and end is None:
                    self.assertEqual(story.hall.state_of(seat), "out")
                    self.assertIsNone(story.machines[seat].free_set())
                    self.assertNotIn(("ask", seat), story.log[ask + 1:])
                    found += 1
        self.assertGreater(found, 5)

    def test_there_is_enough_in_them(self):
        many = tally([row for story in QUIET + MEETING + FIRSTS + ANY for row in story.log])
        for word in ("ask", "vote", "back", "given", "done"):
            self.assertGreater(many[word], 30, word)
        turns = [stamp for story in MEETING + ANY for stamp in story.sets_of if stamp[2] > 0]
        self.assertGreater(len(turns), 20)
        self.assertTrue(any(stamp[2] > 1 for stamp in turns))


if __name__ == "__main__":
    unittest.main()
