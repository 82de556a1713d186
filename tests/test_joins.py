import random
import unittest

from families import REFUSED, TRIANGLE, is_as_good_as_can_be, look_at_refusals, some_meeting_sets, some_sets
from soleseat.base.errors import NoSeat
from soleseat.sets.errors import NoFamily, TooMany
from soleseat.sets.forms import fault
from soleseat.sets.joins import joined
from soleseat.sets.meeting import meeting
from soleseat.sets.planes import plane


def plain_join(seats, sets, at, by):
    """Point 37, seat by seat, as a set of sets."""
    kept = [seat for seat in range(seats) if seat != at]
    found = set()
    for one in sets:
        start = [kept.index(seat) for seat in one if seat != at]
        for other in by if at in one else [()]:
            found.add(tuple(sorted(start + [len(kept) + seat for seat in other])))
    return found


class Joined(unittest.TestCase):
    def refused(self, error, fields, seats, sets, **more):
        with self.assertRaises(error) as caught:
            joined(seats, sets, **more)
        self.assertEqual(vars(caught.exception), fields)

    def test_by_hand(self):
        self.assertEqual(sorted(joined(3, TRIANGLE, at=0, by_seats=3, by=TRIANGLE)),
                         [(0, 1), (0, 2, 3), (0, 2, 4), (0, 3, 4), (1, 2, 3), (1, 2, 4), (1, 3, 4)])
        self.assertEqual(sorted(joined(3, TRIANGLE, at=1, by_seats=2, by=[(0, 1)])), [(0, 1), (0, 2, 3), (1, 2, 3)])
        self.assertEqual(sorted(joined(3, TRIANGLE, at=2, by_seats=1, by=[(0,)])), TRIANGLE)

    def test_the_numbers_of_the_seats(self):
        sets = [(0, 2, 4), (1, 3)]
        self.assertEqual(joined(5, sets, at=2, by_seats=2, by=[(1,)]), [(0, 3, 5), (1, 2)])
        self.assertEqual(joined(5, sets, at=0, by_seats=3, by=[(0, 2)]), [(1, 3, 4, 6), (0, 2)])
        self.assertEqual(joined(5, sets, at=4, by_seats=3, by=[(0, 2)]), [(0, 2, 4, 6), (1, 3)])
        self.assertEqual(joined(1, [(0,)], at=0, by_seats=4, by=[(1, 3), (2,)]), [(1, 3), (2,)])

    def test_families_without_sets(self):
        self.assertEqual(joined(3, [], at=1, by_seats=3, by=TRIANGLE), [])
        self.assertEqual(joined(3, TRIANGLE, at=2, by_seats=3, by=[]), [(0, 1)])
        self.assertEqual(joined(3, [(0,), (1, 2)], at=0, by_seats=60 - 2, by=[]), [(0, 1)])
        self.assertEqual(joined(1, [(0,)], at=0, by_seats=1, by=[]), [])
        self.assertEqual(joined(1, [], at=0, by_seats=1, by=[]), [])

    def test_random_families(self):
        chance = random.Random(37)
        for _ in range(500):
            seats, by_seats = chance.randrange(1, 7), chance.randrange(1, 7)
            sets, by, at = some_sets(chance, seats, 6), some_sets(chance, by_seats, 6), chance.randrange(seats)
            family = joined(seats, sets, at=at, by_seats=by_seats, by=by)
            self.assertIsInstance(family, list)
            self.assertEqual(len(family), len(set(family)))
            self.assertEqual(set(family), plain_join(seats, sets, at, by))
            self.assertIsNone(fault(seats - 1 + by_seats, family))

    def test_each_two_share_a_seat_where_they_do_in_both(self):
        chance = random.Random(38)
        for _ in range(100):
            sets, by = some_meeting_sets(chance, 5, 6), some_meeting_sets(chance, 4, 5)
            family = joined(5, sets, at=chance.randrange(5), by_seats=4, by=by)
            self.assertEqual(meeting(8, family)[0], "meets")

    def test_as_good_as_can_be_where_both_are(self):
        for at in range(3):
            family = joined(3, TRIANGLE, at=at, by_seats=3, by=TRIANGLE)
            self.assertTrue(is_as_good_as_can_be(5, family))
            self.assertTrue(is_as_good_as_can_be(3, joined(3, TRIANGLE, at=at, by_seats=1, by=[(0,)])))
        self.assertTrue(is_as_good_as_can_be(9, joined(7, plane(2), at=4, by_seats=3, by=TRIANGLE)))
        self.assertFalse(is_as_good_as_can_be(4, joined(3, TRIANGLE, at=0, by_seats=2, by=[(0, 1)])))

    def test_the_first_family_ahead_of_the_second(self):
        look_at_refusals(self, lambda seats, sets: joined(seats, sets, at=-1, by_seats=0, by=[()] * 300))
        look_at_refusals(self, lambda seats, sets: joined(3, TRIANGLE, at=-1, by_seats=seats, by=sets))
        for seats, sets, _, _ in REFUSED[6:]:
            self.refused(NoFamily, {"at": 0, "why": "empty"}, 3, [()], at=0, by_seats=seats, by=sets)

    def test_no_seat(self):
        for at in (-1, 3, 4, 10 ** 60, -10 ** 60):
            self.refused(NoSeat, {"seat": at}, 3, TRIANGLE, at=at, by_seats=3, by=TRIANGLE)
            self.refused(NoSeat, {"seat": at}, 3, TRIANGLE, at=at, by_seats=60, by=TRIANGLE)

    def test_too_many_seats(self):
        self.refused(TooMany, {"what": "seats"}, 3, TRIANGLE, at=0, by_seats=59, by=TRIANGLE)
        self.refused(TooMany, {"what": "seats"}, 60, [(0,)], at=0, by_seats=2, by=[])
        self.refused(TooMany, {"what": "seats"}, 60, [(0, k) for k in range(1, 21)], at=0, by_seats=60,
                     by=[(k,) for k in range(11)])
        self.assertEqual(len(joined(3, TRIANGLE, at=0, by_seats=58, by=[(57,)])), 3)
        self.assertEqual(joined(60, [(59,)], at=59, by_seats=1, by=[(0,)]), [(59,)])

    def test_too_many_sets(self):
        ends = [(k,) for k in range(20)]
        self.refused(TooMany, {"what": "sets"}, 12, [(0, k) for k in range(1, 12)], at=0, by_seats=20, by=ends)
        self.assertEqual(len(joined(11, [(0, k) for k in range(1, 11)], at=0, by_seats=20, by=ends)), 200)
        self.refused(TooMany, {"what": "sets"}, 11, [(0, k) for k in range(1, 11)] + [(1,)], at=0, by_seats=20, by=ends)

    def test_what_is_handed_in_is_left_alone(self):
        sets, by = list(TRIANGLE), [(0,), (1,)]
        joined(3, sets, at=0, by_seats=2, by=by).clear()
        self.assertEqual((sets, by), (TRIANGLE, [(0,), (1,)]))


if __name__ == "__main__":
    unittest.main()
