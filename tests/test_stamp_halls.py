import random
import unittest

from driving import Drive, fallen_of, machines_of
from soleseat.base.errors import NoFalls, NoSeat
from soleseat.base.hall import Hall, tally
from soleseat.logs.goings import asks, goings, passed, sole
from soleseat.logs.judge import judge
from soleseat.logs.rows import seat_of
from soleseat.logs.runs import Run
from soleseat.stamps.errors import BadCounts
from soleseat.stamps.halls import stamp_hall, stampers
from soleseat.stamps.papers import coming
from soleseat.stamps.stamper import Stamper
from things import ODD_THINGS

TOP = 10 ** 40


def counts_of(machines):
    return [machine.count for machine in machines]


class Making(unittest.TestCase):
    def refused(self, error, field, wanted, *handed, **more):
        for make in (stampers, stamp_hall):
            with self.assertRaises(error) as caught:
                make(*handed, **more)
            self.assertIs(type(caught.exception), error)
            if wanted is None or isinstance(wanted, int):
                self.assertEqual(getattr(caught.exception, field), wanted)
            else:
                self.assertIs(getattr(caught.exception, field), wanted)

    def test_stampers(self):
        machines = stampers(3)
        self.assertEqual([type(machine) for machine in machines], [Stamper] * 3)
        self.assertEqual([(machine.me, machine.count, machine.state) for machine in machines],
                         [(0, 0, "out"), (1, 0, "out"), (2, 0, "out")])
        self.assertEqual(machines[1].ask(), [(0, ("ask", 1)), (2, ("ask", 1))])
        self.assertEqual((len(stampers(1)), len(stampers(60))), (1, 60))

    def test_counts(self):
        for counts in ([4, 0, TOP - 1], (4, 0, TOP - 1)):
            self.assertEqual(counts_of(stampers(3, counts=counts)), [4, 0, TOP - 1])
            self.assertEqual(counts_of(machines_of(stamp_hall(3, counts=counts))), [4, 0, TOP - 1])
        self.assertEqual(counts_of(stampers(3, counts=[5])), [5, 0, 0])
        self.assertEqual(counts_of(stampers(3, counts=())), [0, 0, 0])
        self.assertEqual(counts_of(stampers(3, counts=[])), [0, 0, 0])

    def test_hall(self):
        hall = stamp_hall(3)
        self.assertIs(type(hall), Hall)
        self.assertEqual((len(hall), str(hall)), (3, "out out out"))
        with self.assertRaises(NoFalls):
            hall.fall(0)
        hall = stamp_hall(3, falls=True)
        hall.fall(0)
        self.assertEqual(str(hall), "fallen out out")
        with self.assertRaises(TypeError):
            stamp_hall(3, ())
        with self.assertRaises(TypeError):
            stampers(3, ())

    def test_no_number_of_seats(self):
        for thing in ODD_THINGS + [0, -1, 61, 10 ** 60]:
            self.refused(NoSeat, "seat", thing, thing)
            self.refused(NoSeat, "seat", thing, thing, counts=None)
            self.refused(NoSeat, "seat", thing, thing, counts=[-1])

    def test_no_counts(self):
        for thing in ODD_THINGS + [0, 1, -1]:
            if not isinstance(thing, (list, tuple)):
                self.refused(BadCounts, "at", 0, 3, counts=thing)

    def test_bad_counts(self):
        for thing in ODD_THINGS + [-1, TOP, TOP + 1, 10 ** 60]:
            self.refused(BadCounts, "at", 0, 3, counts=[thing])
            self.refused(BadCounts, "at", 1, 3, counts=(0, thing, thing))
            self.refused(BadCounts, "at", 2, 3, counts=[0, TOP - 1, thing, 0, 0])
            self.refused(BadCounts, "at", 3, 3, counts=[0, 0, 0, thing])

    def test_one_too_many(self):
        self.refused(BadCounts, "at", 3, 3, counts=[0, 0, 0, 0])
        self.refused(BadCounts, "at", 3, 3, counts=(0, 0, 0, 0, -1))
        self.refused(BadCounts, "at", 1, 1, counts=(0, 0))

    def test_counts_are_left_alone(self):
        counts = [3, 4]
        hall = stamp_hall(3, counts=counts)
        counts[0] = 9
        hall.ask(0)
        self.assertEqual((counts, counts_of(machines_of(hall))), ([9, 4], [4, 4, 0]))


class Story:
    """A stamp hall of a fixed seed, driven until nothing is left to be done."""

    def __init__(self, seed, falls):
        chance = random.Random(seed)
        self.seats = chance.randrange(1, 7)
        self.counts = [chance.choice((0, 1, 5, chance.randrange(9))) for _ in range(chance.randrange(self.seats + 1))]
        hall = stamp_hall(self.seats, counts=self.counts, falls=falls)
        self.hall = Drive(hall, seed, falls=chance.randrange(self.seats + 1) if falls else 0,
                          asks=chance.randrange(2, 16)).go()
        self.run = Run(self.hall.rows(), seats=self.seats)
        self.asks = asks(self.run)
        self.stamps = {ask[1]: self.stamp_of(ask) for ask in self.asks}

    def stamp_of(self, ask):
        """The stamp of an ask as its letters tell it; None where it sent none."""
        rows = self.run.rows()[ask[1] + 1:ask[1] + 2]
        if rows and rows[0][0] == "put":
            return rows[0][3][1], ask[0]
        return None


QUIET = [Story(seed, False) for seed in range(80)]
FALLING = [Story(seed, True) for seed in range(120)]


class Runs(unittest.TestCase):
    def test_never_two_and_sole(self):
        for story in QUIET + FALLING:
            self.assertIsNone(judge(story.hall.rows(), seats=story.seats))
            self.assertEqual(sole(story.run)[0], "sole")

    def test_the_still_hall(self):
        for story in QUIET + FALLING:
            self.assertTrue(story.hall.still())
            self.assertEqual(story.hall.waiters(), [])
            for ask in story.asks:
                self.assertTrue(ask[2] is not None or ask[0] in fallen_of(story.hall))
            for seat in range(story.seats):
                if seat not in fallen_of(story.hall):
                    machine = story.hall.machine_of(seat)
                    self.assertEqual((machine.stamp, machine.awaits(), machine.holds(), machine.told_gone()),
                                     (None, [], [], fallen_of(story.hall)))

    def test_goings_come_by_stamps(self):
        for story in QUIET + FALLING:
            told = [story.stamps[going[1]] for going in goings(story.run) if story.stamps[going[1]]]
            self.assertEqual(told, sorted(told))

    def test_who_is_ahead_of_a_going_is_done(self):
        for story in QUIET + FALLING:
            rows_of = story.run.rows()
            for ask in story.asks:
                for going in goings(story.run):
                    one, two = story.stamps[ask[1]], story.stamps[going[1]]
                    if one is None or two is None or one >= two:
                        continue
                    ended = ask[3] is not None and ask[3] < going[2]
                    self.assertTrue(ended or ("fell", ask[0]) in rows_of[:going[2]])

    def test_no_count_is_too_great(self):
        for story in QUIET + FALLING:
            most = max(story.counts + [0]) + len(story.asks)
            for machine in machines_of(story.hall):
                self.assertLessEqual(machine.count, most)

    def test_in_at_most_twice_between(self):
        for story in QUIET + FALLING:
            for going in goings(story.run):
                between = [row for row in story.run.rows()[going[1]:going[2]] if row[0] == "in"]
                for row in between:
                    self.assertLessEqual(between.count(row), 2)

    def test_nobody_is_passed(self):
        for story in QUIET:
            self.assertEqual(passed(story.run), [])

    def test_letters_counted(self):
        for story in QUIET:
            many = (story.seats - 1) * len(goings(story.run))
            self.assertEqual(len(goings(story.run)), len(story.asks))
            self.assertEqual(tally(story.hall.rows()), {"ask": many, "yes": many} if many else {})
        for story in FALLING:
            for many in tally(story.hall.rows()).values():
                self.assertLessEqual(many, (story.seats - 1) * len(story.asks))

    def test_there_is_enough_in_them(self):
        self.assertGreater(sum(len(goings(story.run)) for story in QUIET), 200)
        self.assertGreater(sum(len(fallen_of(story.hall)) for story in FALLING), 100)
        self.assertGreater(sum(len(story.asks) - len(goings(story.run)) for story in FALLING), 20)


class Endings(unittest.TestCase):
    def test_without_more_asks_and_falls(self):
        orders = 0
        for seed in range(150):
            chance = random.Random(seed)
            seats = chance.randrange(1, 7)
            hall = stamp_hall(seats, falls=True)
            drive = Drive(hall, seed, falls=chance.randrange(3), asks=20)
            drive.go(chance.randrange(10, 60))
            living = drive.living()
            asking, within = hall.waiters(), hall.within()
            order = coming(machines_of(hall), fallen=fallen_of(hall))
            many = len(hall.rows())
            drive.asks = drive.falls = 0
            drive.go()
            rows = hall.rows()[many:]
            self.assertTrue(hall.still())
            self.assertEqual([row[1] for row in rows if row[0] == "in"], order)
            self.assertEqual(sorted(order), asking)
            self.assertEqual(sorted(row[1] for row in rows if row[0] == "out"), sorted(asking + within))
            carried = len([row for row in rows if row[0] in ("came", "gone")])
            self.assertLessEqual(carried, 2 * (seats - 1) * (len(asking) + seats - len(living)))
            self.assertEqual([seat_of(row) for row in rows if row[0] == "fell"], [])
            orders += len(order) > 1
        self.assertGreater(orders, 30)


if __name__ == "__main__":
    unittest.main()
