import itertools
import random
import unittest

from driving import machines_of
from soleseat.base.errors import NoFalls
from soleseat.base.hall import Hall
from soleseat.logs.judge import judge
from soleseat.sets.errors import NoFamily, TooMany
from soleseat.votes.errors import NoFirst
from soleseat.votes.halls import break_run, vote_hall
from soleseat.votes.voter import Voter
from things import ODD_THINGS

TRIANGLE = [(0, 1), (1, 2), (0, 2)]


class Making(unittest.TestCase):
    def refused(self, error, fields, *handed, **more):
        for make in (vote_hall, break_run):
            with self.assertRaises(error) as caught:
                make(*handed, **more)
            self.assertIs(type(caught.exception), error)
            self.assertEqual(tuple(vars(caught.exception).values()), fields)

    def test_hall(self):
        hall = vote_hall(4, TRIANGLE)
        self.assertIs(type(hall), Hall)
        self.assertEqual([type(machine) for machine in machines_of(hall)], [Voter] * 4)
        self.assertEqual([machine.free_set() for machine in machines_of(hall)], [0, 1, 2, 0])
        self.assertEqual([machine.count for machine in machines_of(hall)], [0] * 4)
        with self.assertRaises(NoFalls):
            hall.fall(0)
        hall = vote_hall(4, TRIANGLE, falls=True)
        hall.fall(3)
        self.assertEqual(str(hall), "out out out fallen")

    def test_firsts(self):
        hall = vote_hall(4, TRIANGLE, firsts=[2, 0, 0, 1])
        self.assertEqual([machine.free_set() for machine in machines_of(hall)], [2, 0, 0, 1])
        hall = vote_hall(4, TRIANGLE, firsts=None)
        self.assertEqual([machine.free_set() for machine in machines_of(hall)], [0, 1, 2, 0])

    def test_counts(self):
        for counts in ([4, 0, 7], (4, 0, 7)):
            hall = vote_hall(4, TRIANGLE, counts=counts)
            self.assertEqual([machine.count for machine in machines_of(hall)], [4, 0, 7, 0])
        hall = vote_hall(3, TRIANGLE, counts=[1, 2, 10 ** 60 - 9])
        self.assertEqual([machine.count for machine in machines_of(hall)], [1, 2, 10 ** 60 - 9])

    def test_what_is_handed_in_is_left_alone(self):
        sets, firsts, counts = list(TRIANGLE), [1, 1, 1], [3]
        hall = vote_hall(3, sets, firsts=firsts, counts=counts)
        sets[1] = (0,)
        firsts[0] = 0
        counts[0] = 9
        self.assertEqual(hall.ask(0)[1:], [("put", 0, 1, ("ask", 4, 0)), ("put", 0, 2, ("ask", 4, 0))])
        self.assertEqual((sets, firsts, counts), ([(0, 1), (0,), (0, 2)], [0, 1, 1], [9]))

    def test_without_sets(self):
        hall = vote_hall(3, [])
        self.assertEqual([machine.free_set() for machine in machines_of(hall)], [None] * 3)
        self.assertIsNone(break_run(3, []))

    def test_families_are_looked_at_ahead(self):
        for firsts in (None, [], [0, 0], [None] * 99):
            self.refused(TooMany, ("seats",), 0, TRIANGLE, firsts=firsts)
            self.refused(TooMany, ("seats",), 61, [()] * 300, firsts=firsts)
            self.refused(TooMany, ("sets",), 3, [(0,)] * 201, firsts=firsts)
            self.refused(NoFamily, (1, "outside"), 3, [(0,), (3,)], firsts=firsts)
            self.refused(NoFamily, (0, "order"), 3, [(1, 0), ()], firsts=firsts)
            self.refused(NoFamily, (0, "empty"), 3, [()], firsts=firsts)
            self.refused(NoFamily, (3, "again"), 3, TRIANGLE + [(0, 1)], firsts=firsts)

    def test_no_first(self):
        for thing in ODD_THINGS + [None, True, False, "0", (0,), (), -1, 3, 10 ** 60]:
            self.refused(NoFirst, (0,), 3, TRIANGLE, firsts=[thing, 0, 0])
            self.refused(NoFirst, (1,), 3, TRIANGLE, firsts=[2, thing, thing])
            self.refused(NoFirst, (2,), 3, TRIANGLE, firsts=[2, 0, thing])
            self.refused(NoFirst, (1,), 3, TRIANGLE, firsts=[2, thing])
            self.refused(NoFirst, (3,), 3, TRIANGLE, firsts=[2, 0, 1, thing])

    def test_too_few_and_too_many_firsts(self):
        self.refused(NoFirst, (0,), 3, TRIANGLE, firsts=[])
        self.refused(NoFirst, (2,), 3, TRIANGLE, firsts=[0, 1])
        self.refused(NoFirst, (3,), 3, TRIANGLE, firsts=[0, 1, 2, 0])
        self.refused(NoFirst, (3,), 3, TRIANGLE, firsts=[0, 1, 2, 0, None])
        self.refused(NoFirst, (59,), 60, TRIANGLE, firsts=[0] * 59)
        self.refused(NoFirst, (60,), 60, TRIANGLE, firsts=[0] * 61)

    def test_firsts_that_are_no_list(self):
        for thing in (True, False, 0, "012", 2.0, {}, {0: 0}, object()):
            self.refused(NoFirst, (0,), 3, TRIANGLE, firsts=thing)

    def test_firsts_in_a_family_without_sets(self):
        for firsts in ([], [0], [0, 0, 0], [None, 0, 0], [0, 0, 0, 0]):
            self.refused(NoFirst, (0,), 3, [], firsts=firsts)


class BreakRuns(unittest.TestCase):
    def check(self, seats, sets, firsts=None):
        """Whether no two seats have first sets that are apart; else the deeds are looked at, too."""
        own = [sets[seat % len(sets)] if firsts is None else sets[firsts[seat]] for seat in range(seats)]
        apart = [(a, b) for a in range(seats) for b in range(a + 1, seats) if not set(own[a]) & set(own[b])]
        told = break_run(seats, sets, firsts=firsts)
        if not apart:
            self.assertIsNone(told)
            return True
        a, b = apart[0]
        self.assertEqual(told, [("ask", a), ("ask", b)] + [("carry", a, seat) for seat in own[a]]
                         + [("carry", b, seat) for seat in own[b]] + [("carry", seat, a) for seat in own[a]]
                         + [("carry", seat, b) for seat in own[b]])
        for falls in (False, True):
            hall = vote_hall(seats, sets, firsts=firsts, falls=falls)
            hall.run(told)
            self.assertEqual(hall.runs(), [len(told)])
            self.assertEqual(hall.within(), [a, b])
            self.assertEqual(judge(hall.rows(), seats=seats)[1], "two")
        return False

    def test_none(self):
        for seats, sets, firsts in ((3, TRIANGLE, None), (60, TRIANGLE, None), (1, [(0,)], None), (1, [(0,)], [0]),
                                    (3, [(0,), (1,)], [1, 1, 1]), (4, [(0, 1), (2, 3), (0, 3)], [0, 2, 2, 0])):
            self.assertIsNone(break_run(seats, sets, firsts=firsts))
            self.assertTrue(self.check(seats, sets, firsts))
        # The sets are apart, but only the first of them is anybody's first one.
        self.assertIsNone(break_run(2, [(0, 1), (1,), (0,)]))

    def test_by_hand(self):
        self.assertEqual(break_run(4, [(0, 1), (2, 3)]),
                         [("ask", 0), ("ask", 1), ("carry", 0, 0), ("carry", 0, 1), ("carry", 1, 2), ("carry", 1, 3),
                          ("carry", 0, 0), ("carry", 1, 0), ("carry", 2, 1), ("carry", 3, 1)])
        self.assertEqual(break_run(3, [(0, 1), (2,), (1, 2)], firsts=[2, 0, 1])[:3],
                         [("ask", 1), ("ask", 2), ("carry", 1, 0)])
        self.assertFalse(self.check(4, [(0, 1), (2, 3)]))
        self.assertFalse(self.check(3, [(0, 1), (2,), (1, 2)], [2, 0, 1]))

    def test_the_first_two_seats(self):
        # By a ahead of by b: 0 and 3 come ahead of 1 and 2.
        self.assertEqual(break_run(4, [(0, 1), (1,), (0,), (2,)], firsts=[0, 1, 2, 3])[:2], [("ask", 0), ("ask", 3)])
        self.assertEqual(break_run(4, [(0, 1), (1,), (0,)], firsts=[0, 1, 2, 1])[:2], [("ask", 1), ("ask", 2)])

    def test_random_families(self):
        chance = random.Random(48)
        found = []
        for _ in range(400):
            seats = chance.randrange(1, 7)
            subsets = [one for many in range(1, seats + 1) for one in itertools.combinations(range(seats), many)]
            sets = chance.sample(subsets, chance.randrange(1, min(6, len(subsets) + 1)))
            firsts = None
            if chance.random() < 0.5:
                firsts = [chance.randrange(len(sets)) for _ in range(seats)]
            found.append(self.check(seats, sets, firsts))
        self.assertGreater(found.count(True), 50)
        self.assertGreater(found.count(False), 50)

    def test_of_its_own(self):
        break_run(4, [(0, 1), (2, 3)]).append(None)
        self.assertEqual(len(break_run(4, [(0, 1), (2, 3)])), 10)


if __name__ == "__main__":
    unittest.main()
