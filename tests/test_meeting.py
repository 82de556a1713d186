import itertools
import random
import unittest

from families import TRIANGLE, look_at_refusals, some_meeting_sets, some_sets
from soleseat.sets.meeting import meeting
from soleseat.sets.planes import plane, shared


def plain_meeting(sets):
    for lower, other in itertools.combinations(range(len(sets)), 2):
        if not set(sets[lower]) & set(sets[other]):
            return "apart", lower, other
    return "meets", [[min(set(one) & set(ahead)) for ahead in sets[:at]] for at, one in enumerate(sets)]


class Meeting(unittest.TestCase):
    def test_tables(self):
        self.assertEqual(meeting(3, TRIANGLE), ("meets", [[], [0], [1, 2]]))
        self.assertEqual(meeting(5, [(1, 3, 4), (3, 4), (0, 1, 2, 3)]), ("meets", [[], [3], [1, 3]]))
        self.assertEqual(meeting(3, []), ("meets", []))
        self.assertEqual(meeting(1, [(0,)]), ("meets", [[]]))
        self.assertEqual(meeting(60, [(58, 59)]), ("meets", [[]]))

    def test_planes(self):
        for p in (2, 3, 5, 7):
            sets = plane(p)
            self.assertEqual(meeting(len(sets), sets),
                             ("meets", [[shared(p, one, other) for other in range(one)] for one in range(len(sets))]))

    def test_the_first_two_that_share_none(self):
        self.assertEqual(meeting(2, [(0,), (1,)]), ("apart", 0, 1))
        self.assertEqual(meeting(4, [(0, 1), (1, 2), (0, 3), (2, 3)]), ("apart", 0, 3))
        self.assertEqual(meeting(4, [(0, 1, 2, 3), (1, 2), (0, 3), (1, 3), (2,)]), ("apart", 1, 2))
        # 1 and 2 share none, but 0 is lower, and 0 and 3 share none either.
        self.assertEqual(meeting(4, [(0, 1, 2), (0,), (1, 2), (3,)]), ("apart", 0, 3))
        self.assertEqual(meeting(5, [(0,), (1,), (2,)]), ("apart", 0, 1))

    def test_random_families(self):
        chance = random.Random(38)
        words = []
        for turn in range(1000):
            seats = chance.randrange(1, 9)
            sets = (some_sets, some_meeting_sets)[turn % 2](chance, seats, 8)
            told = meeting(seats, sets)
            self.assertEqual(told, plain_meeting(sets))
            words.append(told[0])
        self.assertGreater(words.count("apart"), 100)

    def test_many_sets(self):
        sets = [pair + tuple(range(30, 60)) for pair in itertools.combinations(range(30), 2)][:200]
        self.assertEqual(meeting(60, sets), plain_meeting(sets))
        sets = list(itertools.islice(itertools.combinations(range(60), 30), 199)) + [tuple(range(30, 60))]
        self.assertEqual(meeting(60, sets), ("apart", 0, 199))

    def test_refusals(self):
        look_at_refusals(self, meeting)

    def test_what_is_told_is_the_askers_own(self):
        sets = list(TRIANGLE)
        meeting(3, sets)[1][2].append(5)
        self.assertEqual(meeting(3, sets), ("meets", [[], [0], [1, 2]]))
        self.assertEqual(sets, TRIANGLE)


if __name__ == "__main__":
    unittest.main()
