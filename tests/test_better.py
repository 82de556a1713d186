import itertools
import random
import unittest

from families import (TRIANGLE, has_whole, is_as_good_as_can_be, look_at_refusals, some_meeting_sets, some_sets,
                      subsets)
from soleseat.sets.better import bettered, lacking
from soleseat.sets.errors import Apart, TooMany
from soleseat.sets.forms import least_ones, looked
from soleseat.sets.joins import joined
from soleseat.sets.meeting import meeting
from soleseat.sets.patterns import grid, wall_sets
from soleseat.sets.planes import plane

GOOD = [
    (1, [(0,)]), (5, [(3,)]), (9, [(8,)]), (3, TRIANGLE), (9, TRIANGLE), (7, plane(2)), (9, plane(2)),
    (5, joined(3, TRIANGLE, at=1, by_seats=3, by=TRIANGLE)), (9, joined(7, plane(2), at=0, by_seats=3, by=TRIANGLE)),
    (5, list(itertools.combinations(range(5), 3))), (9, list(itertools.combinations(range(9), 5))),
    (4, [(0, 1), (0, 2), (0, 3), (1, 2, 3)]), (3, TRIANGLE + [(0, 1, 2)]), (3, [(0, 1), (1,), (1, 2)]),
    (3, wall_sets([1, 2])), (7, wall_sets([1, 2, 4])),
]
NOT_GOOD = [
    (1, []), (5, []), (9, []), (4, grid(2, 2)), (6, grid(2, 3)), (6, grid(3, 2)), (9, grid(3, 3)), (4, wall_sets([2, 2])),
    (9, wall_sets([3, 3, 3])), (2, [(0, 1)]), (3, [(0, 1, 2)]), (9, [tuple(range(9))]), (3, [(0, 1), (1, 2)]),
    (4, list(itertools.combinations(range(4), 3))),
]


def met(one, sets):
    return all(set(one) & set(other) for other in sets)


class Lacking(unittest.TestCase):
    def look(self, seats, sets):
        told = lacking(seats, sets)
        if told is None:
            self.assertTrue(is_as_good_as_can_be(seats, sets))
            return True
        self.assertFalse(is_as_good_as_can_be(seats, sets))
        self.assertIsInstance(told, tuple)
        looked(seats, [told])
        self.assertTrue(met(told, sets))
        self.assertFalse(has_whole(told, sets))
        return False

    def test_good_ones(self):
        for seats, sets in GOOD:
            self.assertTrue(self.look(seats, sets))

    def test_others(self):
        for seats, sets in NOT_GOOD:
            self.assertFalse(self.look(seats, sets))

    def test_random_families(self):
        chance = random.Random(39)
        told = [self.look(seats, some_meeting_sets(chance, seats, chance.choice((1, 5, 20, 60))))
                for seats in [chance.randrange(1, 7) for _ in range(300)]]
        self.assertGreater(told.count(True), 30)
        self.assertGreater(told.count(False), 30)


class Bettered(unittest.TestCase):
    def look(self, seats, sets):
        given = list(sets)
        told = bettered(seats, sets)
        self.assertEqual(sets, given)
        self.assertIsInstance(told, list)
        looked(seats, told)
        self.assertTrue(is_as_good_as_can_be(seats, told))
        for one, other in itertools.permutations(told, 2):
            self.assertFalse(set(one) <= set(other))
        for one in sets:
            self.assertTrue(has_whole(one, told))
        self.assertIsNone(lacking(seats, told))
        return told

    def test_good_ones_stay(self):
        for seats, sets in GOOD:
            self.assertEqual(sorted(self.look(seats, sets)), sorted(least_ones(seats, sets)))

    def test_others(self):
        for seats, sets in NOT_GOOD:
            self.look(seats, sets)

    def test_random_families(self):
        chance = random.Random(40)
        for _ in range(200):
            seats = chance.randrange(1, 7)
            self.look(seats, some_meeting_sets(chance, seats, chance.choice((1, 5, 20, 60))))

    def test_nine_seats_with_many_sets(self):
        chance = random.Random(41)
        fives = [one for one in subsets(9) if len(one) >= 5]
        for sets in (fives[:200], fives[56:256], chance.sample(fives, 200), chance.sample(fives, 126),
                     [one for one in subsets(9) if len(one) == 6], chance.sample([one for one in subsets(9) if 0 in one],
                                                                                 200)):
            self.look(9, sets)


class Refusals(unittest.TestCase):
    def refused(self, error, fields, seats, sets):
        for told in (lacking, bettered):
            with self.assertRaises(error) as caught:
                told(seats, sets)
            self.assertEqual(vars(caught.exception), fields)

    def test_no_family(self):
        look_at_refusals(self, lacking)
        look_at_refusals(self, bettered)

    def test_too_many_seats(self):
        for seats in (10, 11, 60):
            self.refused(TooMany, {"what": "seats"}, seats, [])
            self.refused(TooMany, {"what": "seats"}, seats, TRIANGLE)
            self.refused(TooMany, {"what": "seats"}, seats, [(0,), (1,)])

    def test_apart(self):
        self.refused(Apart, {"left": 0, "right": 1}, 2, [(0,), (1,)])
        self.refused(Apart, {"left": 0, "right": 3}, 4, [(0, 1, 2), (0,), (1, 2), (3,)])
        self.refused(Apart, {"left": 1, "right": 2}, 9, [(7, 8), (0, 8), (1, 7), (8,)])
        chance = random.Random(42)
        for _ in range(100):
            sets = some_sets(chance, 5, 6)
            word, *two = meeting(5, sets)
            if word == "apart":
                self.refused(Apart, {"left": two[0], "right": two[1]}, 5, sets)


if __name__ == "__main__":
    unittest.main()
