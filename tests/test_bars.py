import itertools
import random
import unittest

from families import TRIANGLE, look_at_refusals, some_sets, subsets
from soleseat.base.errors import NoSeat
from soleseat.sets.bars import barred, least_bar
from soleseat.sets.errors import TooMany
from soleseat.sets.patterns import grid, wall_sets
from soleseat.sets.planes import plane


class Barred(unittest.TestCase):
    def test_whole_sets(self):
        self.assertEqual(barred(3, TRIANGLE, []), ("whole", 0))
        self.assertEqual(barred(3, TRIANGLE, [0]), ("whole", 2))
        self.assertEqual(barred(3, TRIANGLE, [1]), ("whole", 1))
        self.assertEqual(barred(4, [(0,), (1,), (2,), (3,)], [1, 0]), ("whole", 2))

    def test_bars(self):
        self.assertEqual(barred(3, TRIANGLE, [0, 1]), ("bar", [0, 0, 1]))
        self.assertEqual(barred(3, TRIANGLE, [2, 1]), ("bar", [1, 2, 1]))
        self.assertEqual(barred(5, [(0, 3, 4), (1, 2, 4), (4,)], [4, 3, 2]), ("bar", [3, 2, 4]))
        self.assertEqual(barred(60, [(0, 59), (58, 59)], [59]), ("bar", [59, 59]))

    def test_a_family_without_sets(self):
        self.assertEqual(barred(5, [], []), ("bar", []))
        self.assertEqual(barred(5, [], [3, 1]), ("bar", []))

    def test_random_families(self):
        chance = random.Random(40)
        for _ in range(500):
            seats = chance.randrange(1, 7)
            sets = some_sets(chance, seats, 6)
            fallen = chance.sample(range(seats), chance.randrange(seats + 1))
            wholes = [number for number, one in enumerate(sets) if not set(one) & set(fallen)]
            wanted = ("whole", wholes[0]) if wholes else ("bar", [min(set(one) & set(fallen)) for one in sets])
            self.assertEqual(barred(seats, sets, fallen), wanted)

    def test_refusals(self):
        look_at_refusals(self, lambda seats, sets: barred(seats, sets, [-1]))
        for fallen, wrong in (([3], 3), ([-1], -1), ([0, 5, 3], 5), ([0, 1, 2, 10 ** 60], 10 ** 60), ([7, -1], 7)):
            for sets in (TRIANGLE, [], [(0,)]):
                with self.assertRaises(NoSeat) as caught:
                    barred(3, sets, fallen)
                self.assertEqual(caught.exception.seat, wrong)

    def test_what_is_told_is_the_askers_own(self):
        sets, fallen = list(TRIANGLE), [2, 1]
        barred(3, sets, fallen)[1].clear()
        self.assertEqual((sets, fallen), (TRIANGLE, [2, 1]))
        self.assertEqual(barred(3, sets, fallen), ("bar", [1, 2, 1]))


class LeastBar(unittest.TestCase):
    def look(self, seats, sets):
        """The number of seats of the bar, held against each sentence of point 41."""
        bar, cases = least_bar(seats, sets)
        self.assertTrue(self.rises(bar, seats))
        self.assertTrue(all(set(bar) & set(one) for one in sets))
        for some in [()] + subsets(seats):
            if len(some) < len(bar):
                self.assertFalse(all(set(some) & set(one) for one in sets))
        self.assertIsInstance(cases, list)
        told = [chosen for chosen, _ in cases]
        self.assertEqual(len(told), len(set(told)))
        for case in cases:
            self.assertIsInstance(case, tuple)
            chosen, number = case
            self.assertTrue(self.rises(chosen, seats))
            self.assertLess(len(chosen), len(bar))
            self.assertFalse(set(chosen) & set(sets[number]))
            if len(chosen) <= len(bar) - 2:
                for seat in sets[number]:
                    self.assertIn(tuple(sorted(chosen + (seat,))), told)
        if bar != ():
            self.assertIn((), told)
        return len(bar)

    def rises(self, some, seats):
        return isinstance(some, tuple) and list(some) == sorted(set(some)) and set(some) <= set(range(seats))

    def test_by_hand(self):
        self.assertEqual(least_bar(3, []), ((), []))
        self.assertEqual(least_bar(3, [(1,)]), ((1,), [((), 0)]))
        self.assertEqual(self.look(3, TRIANGLE), 2)
        self.assertEqual(self.look(9, [(seat,) for seat in range(9)]), 9)
        self.assertEqual(self.look(9, [tuple(range(9))]), 1)
        self.assertEqual(self.look(4, [(0, 1), (2, 3)]), 2)

    def test_patterns(self):
        for seats, sets, wanted in ((7, plane(2), 3), (4, grid(2, 2), 2), (9, grid(3, 3), 3), (6, grid(2, 3), 2),
                                    (9, wall_sets([3, 3, 3]), 3), (7, wall_sets([1, 2, 4]), 3), (3, wall_sets([3]), 1),
                                    (9, list(itertools.combinations(range(9), 5)), 5),
                                    (9, list(itertools.combinations(range(9), 2)), 8)):
            self.assertEqual(self.look(seats, sets), wanted)

    def test_random_families(self):
        chance = random.Random(41)
        told = [self.look(seats, some_sets(chance, seats, chance.choice((1, 4, 8, 20))))
                for seats in [chance.randrange(1, 8) for _ in range(400)]]
        for many in range(5):
            self.assertGreater(told.count(many), 5)

    def test_refusals(self):
        look_at_refusals(self, least_bar)
        for seats in (10, 11, 60):
            for sets in ([], TRIANGLE, [(0,), (1,)]):
                with self.assertRaises(TooMany) as caught:
                    least_bar(seats, sets)
                self.assertEqual(caught.exception.what, "seats")

    def test_what_is_told_is_the_askers_own(self):
        sets = list(TRIANGLE)
        least_bar(3, sets)[1].clear()
        self.assertEqual(sets, TRIANGLE)
        self.assertEqual(len(least_bar(3, sets)[1]), 3)


if __name__ == "__main__":
    unittest.main()
