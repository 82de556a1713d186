import itertools
import random
import unittest

from soleseat.sets.errors import NoFamily, TooMany
from soleseat.sets.forms import FEW, SETS, fault, least_ones, looked

TRIANGLE = [(0, 1), (1, 2), (0, 2)]


def many_sets(many):
    """So many sets of 60 seats."""
    return [pair for pair in itertools.combinations(range(60), 2)][:many]


def plain_fault(seats, sets):
    """The fault, word by word as point 33 tells it."""
    for number, one in enumerate(sets):
        if one == ():
            return number, "empty"
        if any(seat < 0 or not seat < seats for seat in one):
            return number, "outside"
        if list(one) != sorted(set(one)):
            return number, "order"
        if one in sets[:number]:
            return number, "again"
    return None


class Faults(unittest.TestCase):
    def test_values(self):
        self.assertEqual((SETS, FEW), (200, 9))

    def test_families(self):
        for seats, sets in ((3, TRIANGLE), (3, []), (1, [(0,)]), (0, []), (-5, []), (10 ** 30, [(0, 10 ** 30 - 1)]),
                            (60, many_sets(201)), (61, [(60,)]), (5, [(0,), (0, 1), (1,), (0, 4)])):
            self.assertIsNone(fault(seats, sets))

    def test_each_word(self):
        for sets, wanted in (([()], (0, "empty")), ([(0,), ()], (1, "empty")), ([(3,)], (0, "outside")),
                             ([(-1,)], (0, "outside")), ([(0, 1), (0, 3)], (1, "outside")),
                             ([(-1, 0)], (0, "outside")), ([(0, 1), (1, 0)], (1, "order")), ([(0, 0)], (0, "order")),
                             ([(0, 2, 1)], (0, "order")), ([(0, 1, 1)], (0, "order")),
                             (TRIANGLE + [(0, 1)], (3, "again")), ([(0,), (0,)], (1, "again")),
                             ([(0,), (1,), (2,), (1,), (0,)], (3, "again"))):
            self.assertEqual(fault(3, sets), wanted)

    def test_the_first_word_that_fits(self):
        self.assertEqual(fault(3, [(5, 1)]), (0, "outside"))
        self.assertEqual(fault(3, [(1, 0), (3, 3)]), (0, "order"))
        self.assertEqual(fault(3, [(3, 3)]), (0, "outside"))
        self.assertEqual(fault(3, [(2, -1)]), (0, "outside"))
        self.assertEqual(fault(3, [(0, 1), (0, 1), ()]), (1, "again"))

    def test_any_number_of_seats(self):
        for seats in (0, -1, -10 ** 30):
            self.assertEqual(fault(seats, [(0,)]), (0, "outside"))
            self.assertEqual(fault(seats, [(-1,)]), (0, "outside"))
            self.assertEqual(fault(seats, [()]), (0, "empty"))
        self.assertEqual(fault(10 ** 30, [(10 ** 30,)]), (0, "outside"))

    def test_random_families(self):
        chance = random.Random(33)
        words = {}
        for _ in range(3000):
            seats = chance.randrange(-1, 6)
            sets = []
            for _ in range(chance.randrange(6)):
                one = [chance.randrange(6) for _ in range(chance.choice((1, 1, 2, 2, 3, 3, 0)))]
                if chance.random() < 0.9:
                    one = sorted(set(one))
                sets.append(tuple(one))
            told = fault(seats, sets)
            self.assertEqual(told, plain_fault(seats, sets))
            word = None if told is None else told[1]
            words[word] = words.get(word, 0) + 1
        for word in (None, "empty", "outside", "order", "again"):
            self.assertGreater(words[word], 20, word)


class Looks(unittest.TestCase):
    def refused(self, seats, sets, error, *fields):
        for told in (looked, least_ones):
            with self.assertRaises(error) as caught:
                told(seats, sets)
            self.assertEqual(tuple(vars(caught.exception).values()), fields)

    def test_families(self):
        for seats, sets in ((3, TRIANGLE), (3, []), (1, [(0,)]), (1, []), (60, []), (60, many_sets(200))):
            self.assertIsNone(looked(seats, sets))

    def test_too_many_seats(self):
        for seats in (0, -1, 61, 10 ** 40, -10 ** 40):
            for sets in ([], [(0,)], [()], many_sets(201)):
                self.refused(seats, sets, TooMany, "seats")

    def test_too_many_sets(self):
        for sets in (many_sets(201), many_sets(300), [()] * 201, [(0,)] * 500):
            self.refused(60, sets, TooMany, "sets")
            self.refused(1, sets, TooMany, "sets")

    def test_no_family(self):
        self.refused(3, [(0, 1), ()], NoFamily, 1, "empty")
        self.refused(3, TRIANGLE + [(3,)], NoFamily, 3, "outside")
        self.refused(3, [(1, 0), ()], NoFamily, 0, "order")
        self.refused(3, [(1,), (0,), (1,)], NoFamily, 2, "again")
        self.refused(1, [(0,), (1,)], NoFamily, 1, "outside")
        self.refused(60, [(60,)], NoFamily, 0, "outside")
        self.refused(60, many_sets(199) + [()], NoFamily, 199, "empty")


class LeastOnes(unittest.TestCase):
    def test_least_ones(self):
        for sets, wanted in (([], []), ([(0,)], [(0,)]), (TRIANGLE, TRIANGLE),
                             ([(0, 1, 2), (0, 1), (1, 2)], [(0, 1), (1, 2)]),
                             ([(0, 1), (2, 3), (0, 1, 2)], [(0, 1), (2, 3)]),
                             ([(0, 2), (0, 1, 2), (0,), (1,)], [(0,), (1,)]),
                             ([(1, 2), (0, 3), (0, 1, 2, 3)], [(1, 2), (0, 3)]),
                             ([(0, 1, 3), (1, 3), (0, 3), (3,)], [(3,)])):
            self.assertEqual(least_ones(4, sets), wanted)

    def test_what_is_handed_in_is_left_alone(self):
        sets = [(0, 1, 2), (0, 1)]
        least_ones(3, sets).append((5,))
        self.assertEqual(sets, [(0, 1, 2), (0, 1)])
        self.assertEqual(least_ones(3, sets), [(0, 1)])

    def test_random_families(self):
        chance = random.Random(34)
        for _ in range(300):
            subsets = [one for many in range(1, 5) for one in itertools.combinations(range(5), many)]
            sets = chance.sample(subsets, chance.randrange(10))
            wanted = [one for one in sets if not any(set(other) < set(one) for other in sets)]
            self.assertEqual(least_ones(5, sets), wanted)


if __name__ == "__main__":
    unittest.main()
