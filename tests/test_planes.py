import itertools
import random
import unittest

from soleseat.base.errors import NoSeat
from soleseat.sets.errors import NoSet, NotPrime, TooMany, TooManyFallen
from soleseat.sets.forms import looked
from soleseat.sets.planes import free, holding, lies, plane, seats_of, set_of, shared

SMALL = [2, 3, 5, 7, 11, 13]
GREAT = [97, 997, 7919, 9967, 9973]
NO_PRIMES = [
    0, 1, -1, -2, -3, -9973, 4, 6, 8, 9, 15, 21, 25, 27, 33, 35, 49, 77, 91, 121, 169, 961, 97 * 97, 89 * 97, 97 * 101,
    9409, 9948, 9969, 9971, 9972, 9974, 9975, 9979, 10007, 10009, 99991, 10 ** 9 + 7, 2 ** 61 - 1, 2 ** 521 - 1,
    10 ** 5000, -10 ** 5000, 2 ** 20000,
]


def primes_to(top):
    """The primes up to top, by the sieve."""
    told = [True] * (top + 1)
    for number in range(2, top + 1):
        for times in range(2 * number, top + 1, number):
            told[times] = False
    return [number for number in range(2, top + 1) if told[number]]


def some_seats(chance, p, many):
    return chance.sample(range(p * p + p + 1), many)


class Small(unittest.TestCase):
    def test_all_sets_and_seats(self):
        for p in SMALL:
            many = p * p + p + 1
            self.assertEqual(seats_of(p), many)
            sets = [set_of(p, number) for number in range(many)]
            for number, one in enumerate(sets):
                self.assertIsInstance(one, tuple)
                self.assertEqual(len(one), p + 1)
                self.assertEqual(list(one), sorted(set(one)))
                self.assertTrue(0 <= one[0] and one[-1] < many)
                self.assertIn(number, one)
                for seat in range(many):
                    self.assertIs(lies(p, seat, number), seat in one)

    def test_shared(self):
        for p in SMALL:
            sets = [set(set_of(p, number)) for number in range(p * p + p + 1)]
            for one, other in itertools.permutations(range(len(sets)), 2):
                self.assertEqual({shared(p, one, other)}, sets[one] & sets[other])

    def test_holding(self):
        for p in SMALL:
            of_pair = {}
            for number in range(p * p + p + 1):
                for pair in itertools.permutations(set_of(p, number), 2):
                    self.assertNotIn(pair, of_pair)
                    of_pair[pair] = number
            for pair in itertools.permutations(range(p * p + p + 1), 2):
                self.assertEqual(holding(p, *pair), of_pair[pair])

    def test_free_of_each_choice(self):
        for p, most in ((2, 2), (3, 3), (5, 3)):
            sets = [set(set_of(p, number)) for number in range(p * p + p + 1)]
            for many in range(most + 1):
                for fallen in itertools.combinations(range(len(sets)), many):
                    self.assertFalse(sets[free(p, list(fallen))] & set(fallen))
                    self.assertFalse(sets[free(p, list(fallen)[::-1])] & set(fallen))

    def test_free_of_p_seats_of_one_set(self):
        for p in SMALL:
            for number in range(p * p + p + 1):
                one = set_of(p, number)
                for left in range(p + 1):
                    fallen = list(one[:left] + one[left + 1:])
                    self.assertFalse(set(set_of(p, free(p, fallen))) & set(fallen))

    def test_plane(self):
        for p in (2, 3, 5, 7):
            sets = plane(p)
            self.assertEqual(sets, [set_of(p, number) for number in range(p * p + p + 1)])
            self.assertIsNone(looked(seats_of(p), sets))
        for p in (11, 13, 97, 9973):
            with self.assertRaises(TooMany) as caught:
                plane(p)
            self.assertEqual(caught.exception.what, "seats")

    def test_what_is_told_is_the_askers_own(self):
        fallen = [5, 3]
        plane(2).clear()
        self.assertEqual(len(plane(2)), 7)
        free(3, fallen)
        self.assertEqual(fallen, [5, 3])


class Great(unittest.TestCase):
    def test_sets(self):
        chance = random.Random(34)
        for p in GREAT:
            many = p * p + p + 1
            self.assertEqual(seats_of(p), many)
            for number in some_seats(chance, p, 4) + [0, 1, p, p + 1, many - 2, many - 1]:
                one = set_of(p, number)
                self.assertEqual(len(one), p + 1)
                self.assertEqual(list(one), sorted(set(one)))
                self.assertTrue(0 <= one[0] and one[-1] < many)
                self.assertIn(number, one)
                self.assertIs(lies(p, number, number), True)
                for seat in chance.sample(one, 20):
                    self.assertIs(lies(p, seat, number), True)
                there = set(one)
                for seat in some_seats(chance, p, 200):
                    self.assertIs(lies(p, seat, number), seat in there)

    def test_shared_and_holding(self):
        chance = random.Random(35)
        for p in GREAT:
            many = p * p + p + 1
            for _ in range(300):
                near = chance.randrange(many)
                one, other = chance.choice((some_seats(chance, p, 2), [near, (near + 1) % many],
                                            [near, (near + p + 1) % many], [near, many - 1 - (near == many - 1)],
                                            [chance.randrange(p) * (p + 1) + p, (near - 1) % many],
                                            [chance.randrange(p) * (p + 1), many - 2]))
                if one == other:
                    continue
                seat = shared(p, one, other)
                self.assertTrue(lies(p, seat, one) and lies(p, seat, other))
                self.assertEqual(shared(p, other, one), seat)
                number = holding(p, one, other)
                self.assertTrue(lies(p, one, number) and lies(p, other, number))
                self.assertEqual(holding(p, other, one), number)

    def test_two_sets_share_no_other_seat(self):
        for p in GREAT:
            many = p * p + p + 1
            for one, other in ((0, 1), (0, p + 1), (1, 2), (1, p + 2), (many - 1, 0), (many - 2, many - 1),
                               (many // 2, many // 3)):
                self.assertEqual(set(set_of(p, one)) & set(set_of(p, other)), {shared(p, one, other)})

    def test_free(self):
        chance = random.Random(36)
        for p in GREAT:
            many = p * p + p + 1
            last = list(set_of(p, many - 1))
            first = list(set_of(p, 0))
            for fallen in ([], [0], [many - 1], [many - 1, 0], some_seats(chance, p, p), some_seats(chance, p, p)[::-1],
                           last[:p], last[1:], first[:p], first[1:], last[2:] + [0], [many - 1 - k for k in range(p)],
                           list(range(p))):
                self.assertFalse(set(fallen) & set(set_of(p, free(p, fallen))))


class Refusals(unittest.TestCase):
    def refused(self, error, fields, ask, *things):
        with self.assertRaises(error) as caught:
            ask(*things)
        self.assertIs(type(caught.exception), error)
        self.assertEqual(vars(caught.exception), fields)

    def test_not_prime_ahead_of_all(self):
        for p in NO_PRIMES:
            for ask, things in ((seats_of, ()), (lies, (-1, -1)), (set_of, (-1,)), (shared, (-1, -1)),
                                (holding, (-1, -1)), (free, ([-1],)), (free, ([0] * 12000,)), (plane, ())):
                self.refused(NotPrime, {"number": p}, ask, p, *things)

    def test_each_number_that_is_no_prime(self):
        primes = primes_to(9973)
        self.assertEqual(primes[-1], 9973)
        told = []
        for p in range(-5, 10100):
            try:
                self.assertEqual(seats_of(p), p * p + p + 1)
                told.append(p)
            except NotPrime as error:
                self.assertEqual(error.number, p)
        self.assertEqual(told, primes)

    def test_seats_and_sets_in_the_order_told(self):
        for p in (2, 7, 9973):
            many = p * p + p + 1
            for wrong in (-1, many, many + 1, -many, 10 ** 60):
                seat, number = {"seat": wrong}, {"number": wrong}
                self.refused(NoSeat, seat, lies, p, wrong, 0)
                self.refused(NoSeat, seat, lies, p, wrong, -1)
                self.refused(NoSet, number, lies, p, 0, wrong)
                self.refused(NoSet, number, set_of, p, wrong)
                self.refused(NoSet, number, shared, p, wrong, 0)
                self.refused(NoSet, number, shared, p, 0, wrong)
                self.refused(NoSet, number, shared, p, wrong, many + 5)
                self.refused(NoSet, number, shared, p, wrong, wrong)
                self.refused(NoSeat, seat, holding, p, wrong, 0)
                self.refused(NoSeat, seat, holding, p, 0, wrong)
                self.refused(NoSeat, seat, holding, p, wrong, many + 5)
                self.refused(NoSeat, seat, holding, p, wrong, wrong)
                self.refused(NoSeat, seat, free, p, [wrong])
                self.refused(NoSeat, seat, free, p, [0, wrong, -7])

    def test_the_same_again(self):
        for p in (2, 5, 9973):
            many = p * p + p + 1
            for wrong in (0, 1, p, p + 1, many - 1):
                self.refused(NoSet, {"number": wrong}, shared, p, wrong, wrong)
                self.refused(NoSeat, {"seat": wrong}, holding, p, wrong, wrong)
                self.assertIs(lies(p, wrong, wrong), True)

    def test_too_many_fallen(self):
        for p in (2, 3, 7, 9973):
            many = p * p + p + 1
            self.refused(TooManyFallen, {"many": p + 1}, free, p, list(range(p + 1)))
            self.refused(TooManyFallen, {"many": p + 2}, free, p, list(range(p + 2))[::-1])
            self.refused(NoSeat, {"seat": many}, free, p, list(range(p + 1)) + [many, -1])
        self.refused(TooManyFallen, {"many": 7}, free, 2, list(range(7)))


if __name__ == "__main__":
    unittest.main()
