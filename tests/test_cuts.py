import itertools
import unittest

from soleseat.logs.cuts import Cut


class Cuts(unittest.TestCase):
    def test_rows_rising_and_once(self):
        for rows in ([], [4], [3, 1, 2], [2, 2, 2], [5, 0, 5, 7, 0], [10 ** 30, 1, 10 ** 30], list(range(2000, 0, -1))):
            for handed in (rows, tuple(rows)):
                cut = Cut(handed)
                self.assertEqual(cut.rows(), sorted(set(rows)))
                self.assertEqual(len(cut), len(set(rows)))
        self.assertEqual(Cut().rows(), [])
        self.assertEqual(len(Cut()), 0)

    def test_has(self):
        cut = Cut([7, 2, 3, 2])
        self.assertEqual([row for row in range(-3, 12) if cut.has(row)], [2, 3, 7])
        self.assertIs(cut.has(2), True)
        self.assertIs(cut.has(4), False)
        self.assertIs(Cut().has(0), False)

    def test_joined_and_shared(self):
        for one in itertools.product((False, True), repeat=4):
            for other in itertools.product((False, True), repeat=4):
                left = [row for row in range(4) if one[row]]
                right = [row for row in range(3, -1, -1) if other[row]]
                cut, second = Cut(left), Cut(right)
                joined, shared = cut.joined(second), cut.shared(second)
                self.assertIsInstance(joined, Cut)
                self.assertIsInstance(shared, Cut)
                self.assertEqual(joined.rows(), [row for row in range(4) if one[row] or other[row]])
                self.assertEqual(shared.rows(), [row for row in range(4) if one[row] and other[row]])
                self.assertEqual((cut.rows(), second.rows()), (left, right[::-1]))

    def test_joined_is_new(self):
        cut = Cut([1, 2])
        self.assertIsNot(cut.joined(Cut()), cut)
        self.assertIsNot(cut.shared(cut), cut)

    def test_equal(self):
        self.assertTrue(Cut([1, 2]) == Cut((2, 1, 2)))
        self.assertFalse(Cut([1, 2]) != Cut((2, 1, 2)))
        self.assertTrue(Cut() == Cut([]))
        self.assertFalse(Cut([1, 2]) == Cut([1]))
        self.assertFalse(Cut([1, 2]) == Cut([1, 3]))
        self.assertTrue(Cut([1]) != Cut())
        for thing in ([1, 2], (1, 2), {1, 2}, "1-2", None, 1, object()):
            self.assertFalse(Cut([1, 2]) == thing)
            self.assertTrue(Cut([1, 2]) != thing)

    def test_text(self):
        for rows, text in (([], "none"), ([0], "0"), ([7], "7"), ([0, 1], "0-1"), ([0, 2], "0 2"), ([3, 2, 1], "1-3"),
                           ([8, 7, 5, 3, 2, 1, 0], "0-3 5 7-8"), ([0, 2, 4, 6], "0 2 4 6"), ([9, 10, 11], "9-11"),
                           ([0, 1, 3, 4, 6], "0-1 3-4 6"), (list(range(1500)), "0-1499"), ([5, 5], "5")):
            self.assertEqual(str(Cut(rows)), text)

    def test_lists_changed_behind(self):
        rows = [3, 1]
        cut = Cut(rows)
        rows.append(8)
        rows[0] = 9
        self.assertEqual(cut.rows(), [1, 3])
        told = cut.rows()
        told.append(5)
        told[0] = 7
        self.assertEqual((cut.rows(), str(cut), len(cut), cut.has(5)), ([1, 3], "1 3", 2, False))
        self.assertEqual(rows, [9, 1, 8])


if __name__ == "__main__":
    unittest.main()
