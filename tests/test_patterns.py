import itertools
import unittest

from soleseat.sets.errors import NoShape, TooMany
from soleseat.sets.forms import fault
from soleseat.sets.patterns import grid, wall_sets


def plain_wall(widths):
    """The sets of a wall, as point 36 tells them."""
    ends = list(itertools.accumulate(widths))
    rows = [list(range(end - width, end)) for end, width in zip(ends, widths)]
    return [tuple(row) + ones for at, row in enumerate(rows) for ones in itertools.product(*rows[at + 1:])]


class Refusing(unittest.TestCase):
    def refused(self, error, fields, ask, *things, **more):
        with self.assertRaises(error) as caught:
            ask(*things, **more)
        self.assertEqual(vars(caught.exception), fields)


class Grids(Refusing):
    def test_by_hand(self):
        self.assertEqual(grid(2, 2), [(0, 1, 2), (0, 1, 3), (0, 2, 3), (1, 2, 3)])
        self.assertEqual(grid(2, 3), [(0, 1, 2, 3), (0, 1, 2, 4), (0, 1, 2, 5), (0, 3, 4, 5), (1, 3, 4, 5),
                                      (2, 3, 4, 5)])

    def test_each_grid(self):
        for rows, columns in itertools.product(range(2, 31), repeat=2):
            if rows * columns > 60:
                self.refused(TooMany, {"what": "seats"}, grid, rows, columns)
                continue
            sets = grid(rows, columns)
            self.assertEqual(len(sets), rows * columns)
            self.assertIsNone(fault(rows * columns, sets))
            for seat, one in enumerate(sets):
                row, column = divmod(seat, columns)
                wanted = {row * columns + at for at in range(columns)} | {at * columns + column for at in range(rows)}
                self.assertEqual(one, tuple(sorted(wanted)))
            for one, other in itertools.combinations(sets, 2):
                self.assertTrue(set(one) & set(other))

    def test_no_shape(self):
        for wrong in (1, 0, -1, -10 ** 40):
            self.refused(NoShape, {"number": wrong}, grid, wrong, 2)
            self.refused(NoShape, {"number": wrong}, grid, 2, wrong)
            self.refused(NoShape, {"number": wrong}, grid, wrong, 0)
            self.refused(NoShape, {"number": wrong}, grid, wrong, 100)
            self.refused(NoShape, {"number": wrong}, grid, 100, wrong)

    def test_too_many_seats(self):
        for rows, columns in ((2, 31), (31, 2), (8, 8), (61, 2), (10 ** 30, 10 ** 30)):
            self.refused(TooMany, {"what": "seats"}, grid, rows, columns)
        self.assertEqual(len(grid(2, 30)), 60)
        self.assertEqual(len(grid(6, 10)), 60)


class Walls(Refusing):
    def test_by_hand(self):
        self.assertEqual(wall_sets([1]), [(0,)])
        self.assertEqual(wall_sets([3]), [(0, 1, 2)])
        self.assertEqual(sorted(wall_sets([1, 2])), [(0, 1), (0, 2), (1, 2)])
        self.assertEqual(sorted(wall_sets([2, 1])), [(0, 1, 2), (2,)])

    def test_each_small_wall(self):
        for many in range(1, 6):
            for widths in itertools.product(range(1, 5), repeat=many):
                wanted = plain_wall(widths)
                if sum(widths) > 60 or len(wanted) > 200:
                    continue
                sets = wall_sets(list(widths))
                self.assertEqual(sorted(sets), sorted(wanted))
                self.assertIsNone(fault(sum(widths), sets))

    def test_each_two_sets_share_a_seat(self):
        for widths in ([1, 2, 3], [2, 2, 2, 2], [3, 1, 4], [5, 5, 5], [1, 1, 1, 1, 1], [56, 4], [1, 59]):
            for one, other in itertools.combinations(wall_sets(widths), 2):
                self.assertTrue(set(one) & set(other))

    def test_sixty_rows_of_one_seat(self):
        sets = wall_sets([1] * 60)
        self.assertEqual(sorted(sets), [tuple(range(seat, 60)) for seat in range(60)])

    def test_no_shape(self):
        for widths, wrong in (([0], 0), ([-1], -1), ([2, 0, -3], 0), ([2, -3, 0], -3), ([61, 0], 0), ([100, -7], -7),
                              ([], 0), ([3] * 19 + [0], 0), ([1, -10 ** 40], -10 ** 40)):
            self.refused(NoShape, {"number": wrong}, wall_sets, widths)
            self.refused(NoShape, {"number": wrong}, wall_sets, widths, most=0)

    def test_too_many_seats_ahead_of_too_many_sets(self):
        for widths in ([61], [30, 31], [4] * 16, [1] * 61, [10 ** 30]):
            self.refused(TooMany, {"what": "seats"}, wall_sets, widths)
            self.refused(TooMany, {"what": "seats"}, wall_sets, widths, most=0)

    def test_too_many_sets(self):
        for widths in ([3] * 20, [2] * 30, [1, 15, 15], [1, 4, 49], [1, 7, 25], [1, 2, 8, 8], [1, 24, 8], [2] * 8):
            self.refused(TooMany, {"what": "sets"}, wall_sets, widths)
            self.refused(TooMany, {"what": "sets"}, wall_sets, widths, most=0)
            self.refused(TooMany, {"what": "sets"}, wall_sets, widths, most=200)
        for widths in ([1, 8, 22, 1], [1, 17, 11, 1]):
            self.assertEqual(len(wall_sets(widths)), 200)
            self.refused(TooMany, {"what": "sets"}, wall_sets, widths, most=199)
        self.assertEqual(len(wall_sets([50, 1, 3, 1])), 8)

    def test_most(self):
        for widths in ([1, 14, 13], [2, 2, 2], [1, 2], [5]):
            many = len(plain_wall(widths))
            self.assertEqual(len(wall_sets(widths, most=many)), many)
            self.refused(TooMany, {"what": "sets"}, wall_sets, widths, most=many - 1)
            self.refused(TooMany, {"what": "sets"}, wall_sets, widths, most=0)

    def test_what_is_handed_in_is_left_alone(self):
        widths = [2, 2, 1]
        wall_sets(widths).clear()
        self.assertEqual(widths, [2, 2, 1])
        self.assertEqual(len(wall_sets(widths)), 4)


if __name__ == "__main__":
    unittest.main()
