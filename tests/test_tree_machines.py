import random
import unittest

from driving import Drive, machines_of
from soleseat.base.hall import tally
from soleseat.base.seats import Seat
from soleseat.logs.goings import goings, sole
from soleseat.logs.judge import judge
from soleseat.logs.runs import Run
from soleseat.trees.turners import Turner
from soleseat.trees.twigs import KeySeat, Twig
from trees_of import some_ups, turner_hall_of, twig_hall_of, way

WISH, KEY = ("wish",), ("key",)


def twig_of(twig):
    return twig.state, twig.toward, twig.queue, twig.sent, twig.has_key()


def turner_of(turner):
    return turner.state, turner.up, turner.behind, turner.keyed, turner.has_key()


class Twigs(unittest.TestCase):
    def test_new(self):
        self.assertTrue(issubclass(KeySeat, Seat) and issubclass(Twig, KeySeat))
        self.assertEqual(twig_of(Twig(2, 1)), ("out", 1, (), False, False))
        self.assertEqual(twig_of(Twig(2, 2)), ("out", 2, (), False, True))
        self.assertIs(KeySeat(1).has_key(), False)

    def test_with_the_key(self):
        twig = Twig(2, 2)
        self.assertEqual(twig.ask(), [])
        self.assertEqual(twig_of(twig), ("in", 2, (), False, True))
        self.assertEqual(twig.hear(3, WISH), [])
        self.assertEqual(twig.hear(1, WISH), [])
        self.assertEqual(twig_of(twig), ("in", 2, (3, 1), False, True))
        self.assertEqual(twig.leave(), [(3, KEY), (3, WISH)])
        self.assertEqual(twig_of(twig), ("out", 3, (1,), True, False))

    def test_without_the_key(self):
        twig = Twig(2, 1)
        self.assertEqual(twig.hear(3, WISH), [(1, WISH)])
        self.assertEqual(twig.ask(), [])
        self.assertEqual(twig_of(twig), ("asking", 1, (3, 2), True, False))
        self.assertEqual(twig.hear(1, KEY), [(3, KEY), (3, WISH)])
        self.assertEqual(twig_of(twig), ("asking", 3, (2,), True, False))
        self.assertEqual(twig.hear(3, KEY), [])
        self.assertEqual(twig_of(twig), ("in", 2, (), False, True))
        self.assertEqual(twig.leave(), [])
        self.assertEqual(twig_of(twig), ("out", 2, (), False, True))
        self.assertEqual(twig.hear(1, WISH), [(1, KEY)])
        self.assertEqual(twig_of(twig), ("out", 1, (), False, False))

    def test_end_marks(self):
        twig = Twig(2, 1)
        twig.ask()
        self.assertEqual(twig.gone(1), [])
        self.assertEqual(twig_of(twig), ("asking", 1, (2,), True, False))


class Turners(unittest.TestCase):
    def test_new(self):
        self.assertTrue(issubclass(Turner, KeySeat))
        self.assertEqual(turner_of(Turner(2, 1)), ("out", 1, None, False, False))
        self.assertEqual(turner_of(Turner(2, 2)), ("out", 2, None, True, True))

    def test_with_the_key(self):
        turner = Turner(2, 2)
        self.assertEqual(turner.ask(), [])
        self.assertEqual(turner_of(turner), ("in", 2, None, True, True))
        self.assertEqual(turner.hear(1, ("wish", 5)), [])
        self.assertEqual(turner_of(turner), ("in", 5, 5, True, True))
        self.assertEqual(turner.hear(1, ("wish", 4)), [(5, ("wish", 4))])
        self.assertEqual(turner_of(turner), ("in", 4, 5, True, True))
        self.assertEqual(turner.leave(), [(5, KEY)])
        self.assertEqual(turner_of(turner), ("out", 4, None, False, False))

    def test_out_with_the_key(self):
        turner = Turner(2, 2)
        turner.ask()
        self.assertEqual(turner.leave(), [])
        self.assertEqual(turner.hear(1, ("wish", 5)), [(5, KEY)])
        self.assertEqual(turner_of(turner), ("out", 5, None, False, False))

    def test_without_the_key(self):
        turner = Turner(2, 1)
        self.assertEqual(turner.hear(3, ("wish", 3)), [(1, ("wish", 3))])
        self.assertEqual(turner.ask(), [(3, ("wish", 2))])
        self.assertEqual(turner_of(turner), ("asking", 2, None, False, False))
        self.assertEqual(turner.hear(1, ("wish", 4)), [])
        self.assertEqual(turner_of(turner), ("asking", 4, 4, False, False))
        self.assertEqual(turner.hear(0, KEY), [])
        self.assertEqual(turner_of(turner), ("in", 4, 4, True, True))
        self.assertEqual(turner.gone(4), [])
        self.assertEqual(turner.leave(), [(4, KEY)])


class Runs(unittest.TestCase):
    def test_sole_and_still(self):
        many = 0
        for seed in range(200):
            chance = random.Random(seed)
            ups = some_ups(chance, chance.randrange(1, 8))
            make = (twig_hall_of, turner_hall_of)[seed % 2]
            falls = seed % 5 == 4
            hall = make(ups, chance.randrange(len(ups)), falls=falls)
            Drive(hall, seed, falls=2 if falls else 0, asks=12).go()
            run = Run(hall.rows(), seats=len(ups))
            self.assertIsNone(judge(hall.rows(), seats=len(ups)))
            self.assertEqual(sole(run)[0], "sole")
            many += len(goings(run))
            if not falls:
                self.assertTrue(hall.still())
                self.assertEqual(hall.waiters(), [])
                self.assertEqual([machine.has_key() for machine in machines_of(hall)].count(True), 1)
        self.assertGreater(many, 1000)

    def test_keys_of_twigs(self):
        for seed in range(60):
            chance = random.Random(seed)
            ups = some_ups(chance, chance.randrange(1, 8))
            at = chance.randrange(len(ups))
            hall = twig_hall_of(ups, at)
            Drive(hall, seed, asks=10).go()
            steps = 0
            for going in goings(Run(hall.rows(), seats=len(ups))):
                steps += len(way(ups, at, going[0])) - 1
                at = going[0]
            self.assertEqual(tally(hall.rows()), {"key": steps, "wish": steps} if steps else {})


if __name__ == "__main__":
    unittest.main()
