"""Halls of callers, and such halls driven by deeds of a fixed seed, held against what holds in every run."""

import random
import unittest

from driving import Drive, fallen_of, machines_of
from soleseat.base.errors import NoFalls, NoSeat
from soleseat.base.hall import Hall, tally
from soleseat.calls.callers import Caller
from soleseat.calls.halls import call_hall
from soleseat.calls.papers import coming, where_key
from soleseat.logs.goings import goings, sole
from soleseat.logs.judge import judge
from soleseat.logs.rows import seat_of
from soleseat.logs.runs import Run
from things import no_seats


class Making(unittest.TestCase):
    def test_hall(self):
        hall = call_hall(3)
        self.assertIs(type(hall), Hall)
        self.assertEqual([type(machine) for machine in machines_of(hall)], [Caller] * 3)
        self.assertEqual([machine.bears() is not None for machine in machines_of(hall)], [True, False, False])
        with self.assertRaises(NoFalls):
            hall.fall(0)
        with self.assertRaises(TypeError):
            call_hall(3, 0)

    def test_first_and_falls(self):
        hall = call_hall(3, first=2, falls=True)
        self.assertEqual([machine.bears() is not None for machine in machines_of(hall)], [False, False, True])
        hall.fall(2)
        self.assertEqual(str(hall), "out out fallen")
        self.assertEqual((len(call_hall(1)), len(call_hall(60))), (1, 60))

    def test_no_first(self):
        for thing in no_seats(3):
            with self.assertRaises(NoSeat) as caught:
                call_hall(3, first=thing, falls=True)
            self.assertIs(caught.exception.seat, thing)

    def test_by_hand(self):
        hall = call_hall(3)
        self.assertEqual(hall.ask(1), [("ask", 1), ("put", 1, 0, ("ask", 1)), ("put", 1, 2, ("ask", 1))])
        key = ("key", 0, ((0, 0), (1, 0), (2, 0)), ())
        self.assertEqual(hall.carry(1, 0), [("came", 1, 0, ("ask", 1)), ("put", 0, 1, key)])
        self.assertEqual(hall.carry(0, 1), [("came", 0, 1, key), ("in", 1)])


class Story:
    """A call hall of a fixed seed, driven until nothing is left to be done."""

    def __init__(self, seed, falls):
        chance = random.Random(seed)
        self.seats = chance.randrange(1, 7)
        self.hall = call_hall(self.seats, first=chance.randrange(self.seats), falls=falls)
        self.machines = machines_of(self.hall)
        self.words = []
        self.left = [0] * self.seats
        self.looked = 0
        # Who bore a key behind the deed ahead, and by round who made one.
        self.bore = [machine.bears() is not None for machine in self.machines]
        self.made = []
        Drive(self.hall, seed, falls=chance.randrange(self.seats + 2) if falls else 0,
              asks=chance.randrange(2, 16), look=self.look).go()
        self.log = self.hall.rows()
        self.run = Run(self.log, seats=self.seats)

    def look(self, hall):
        """What point 55 tells of each moment."""
        fallen = fallen_of(hall)
        living = [seat for seat in range(self.seats) if seat not in fallen]
        assert len(hall.within()) <= 1
        for row in hall.rows()[self.looked:]:
            if row[0] == "out":
                self.left[row[1]] += 1
            if row[0] == "came" and row[3][0] == "key" and row[3][1] >= self.machines[row[2]].round:
                assert ("in", row[2]) == hall.rows()[-1]
        self.note_made(hall.rows()[self.looked:])
        self.looked = len(hall.rows())
        keys = [("has", seat) for seat in living if self.machines[seat].bears()]
        bears = [self.machines[seat].bears() for seat in living if self.machines[seat].bears()]
        for a, b, letter in hall.under_way():
            if letter[0] == "key" and letter[1] >= self.machines[b].round:
                keys.append(("way", a, b))
                bears.append(letter[1:])
                assert self.machines[b].state == "asking"
        assert len(keys) <= 1
        told = where_key(self.machines, hall.under_way(), fallen=fallen)
        self.words.append(told[0])
        if keys:
            assert told == keys[0]
            served = dict(bears[0][1])
            assert all(served[seat] == self.left[seat] for seat in living)
        elif living:
            self.look_without_key(hall, living, fallen, told)
        else:
            assert told == ("nobody",)

    def note_made(self, rows):
        """Note a key that came to be by a pledge or an end mark."""
        at = seat_of(rows[0])
        bears = self.machines[at].bears() is not None
        puts = [row for row in rows if row[0] == "put" and row[3][0] == "key"]
        if not self.bore[at] and (bears or puts) and (rows[0][0] == "gone" or rows[0][3][0] == "pledge"):
            of_round = puts[0][3][1] if puts else self.machines[at].bears()[0]
            self.made.append((of_round, at))
        self.bore[at] = bears

    def look_without_key(self, hall, living, fallen, told):
        word, seat, row = told
        least = self.machines[living[0]]
        assert seat == living[0] and row != ()
        marked = tuple(other for other in least.roster() if other in fallen)
        if marked:
            assert (word, row) == ("marks", marked)
            assert all(("gone",) in hall.letters(other, seat) for other in marked)
        else:
            assert (word, row) == ("pledges", tuple(least.awaits()))
            for other in row:
                rounds = [letter for letter in hall.letters(seat, other) if letter[:2] == ("round", least.round)]
                pledges = [letter for letter in hall.letters(other, seat) if letter[:2] == ("pledge", least.round)]
                assert rounds or pledges

    def rounds(self):
        """The rounds begun that sent a letter, in their order, each as often as it was begun."""
        begun = []
        for at, row in enumerate(self.log):
            if row[0] == "put" and row[3][0] == "round" and self.log[at - 1][3:] != row[3:]:
                begun.append(row[3][1])
        return begun


QUIET = [Story(seed, False) for seed in range(100)]
FALLING = [Story(seed, True) for seed in range(300)]


class Runs(unittest.TestCase):
    def test_never_two_and_sole(self):
        for story in QUIET + FALLING:
            self.assertIsNone(judge(story.log, seats=story.seats))
            self.assertEqual(sole(story.run)[0], "sole")

    def test_the_still_hall(self):
        for story in QUIET + FALLING:
            self.assertTrue(story.hall.still())
            self.assertEqual(story.hall.waiters(), [])
            living = [seat for seat in range(story.seats) if seat not in fallen_of(story.hall)]
            keys = [story.machines[seat].bears() for seat in living if story.machines[seat].bears()]
            self.assertEqual(len(keys), 1 if living else 0)
            for key in keys:
                self.assertEqual(key[0], max(machine.round for machine in story.machines))
                self.assertEqual(key[2], ())
                self.assertEqual({seat: dict(key[1])[seat] for seat in living},
                                 {seat: story.left[seat] for seat in living})

    def test_rounds_rise(self):
        for story in FALLING:
            begun = story.rounds()
            self.assertEqual(begun, sorted(set(begun)))

    def test_keys_are_made_once_and_by_who_began(self):
        many = 0
        for story in FALLING:
            rounds = [of_round for of_round, _ in story.made]
            self.assertEqual(rounds, sorted(set(rounds)))
            for of_round, seat in story.made:
                begun = [row for row in story.log if row[0] == "put" and row[3][:2] == ("round", of_round)]
                self.assertTrue(all(row[1] == seat for row in begun))
                # One that is alone begins a round without a letter.
                self.assertTrue(begun or self.is_alone(story, seat))
                pledges = [row[3] for row in story.log
                           if row[0] == "came" and row[2] == seat and row[3][:2] == ("pledge", of_round)]
                self.assertEqual([pledge[4] for pledge in pledges], [0] * len(pledges))
                many += 1
        self.assertGreater(many, 50)
        self.assertTrue(all(story.made == [] for story in QUIET))

    def is_alone(self, story, seat):
        return story.machines[seat].roster() == [seat]

    def test_letters_without_falls(self):
        for story in QUIET:
            many = tally(story.log)
            ways = 0
            for seat, ask, came_in, _ in goings(story.run):
                ways += came_in > ask + 1
            self.assertEqual(many, {"ask": ways * (story.seats - 1), "key": ways} if ways else {})

    def test_in_at_most_once_ahead(self):
        for story in QUIET:
            for seat, ask, came_in, _ in goings(story.run):
                number = [row for row in story.log[:ask + 1] if row == ("ask", seat)]
                came = [at for at, row in enumerate(story.log)
                        if row[0] == "came" and row[1] == seat and row[3] == ("ask", len(number))]
                if len(came) < story.seats - 1 or not came:
                    continue
                between = [row for row in story.log[came[-1]:came_in] if row[0] == "in"]
                self.assertEqual(len(between), len(set(between)))

    def test_there_is_enough_in_them(self):
        words = [word for story in QUIET + FALLING for word in story.words]
        for word in ("has", "way", "marks", "pledges", "nobody"):
            self.assertGreater(words.count(word), 20, word)
        self.assertGreater(sum(len(goings(story.run)) for story in FALLING), 500)
        made = [story for story in FALLING if len(story.rounds()) > 2]
        self.assertGreater(len(made), 10)


class Orders(unittest.TestCase):
    def test_where_no_ask_is_under_way(self):
        looked = 0
        for seed in range(200):
            chance = random.Random(seed)
            seats = chance.randrange(2, 8)
            hall = call_hall(seats, first=chance.randrange(seats))
            drive = Drive(hall, seed, asks=12)
            drive.go(chance.randrange(4, 60))
            for row in hall.under_way():
                while row[2][0] == "ask" and row in hall.under_way():
                    hall.carry(row[0], row[1])
            order = coming(machines_of(hall), hall.under_way())
            self.assertEqual(sorted(order), hall.waiters())
            many = len(hall.rows())
            drive.asks = 0
            drive.go()
            self.assertEqual([seat_of(row) for row in hall.rows()[many:] if row[0] == "in"], order)
            looked += len(order) > 2
        self.assertGreater(looked, 30)


if __name__ == "__main__":
    unittest.main()
