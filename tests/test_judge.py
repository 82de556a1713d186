import unittest

from soleseat.logs.judge import judge
from things import ODD_THINGS, deep, no_seats

A, B = ("aa",), ("bb", 1)


class Judging(unittest.TestCase):
    def of(self, log, found, seats=4):
        """The log has this fault, judged as a run and as a sound log."""
        ahead = list(log)
        self.assertEqual(judge(log, seats=seats), found)
        self.assertEqual(judge(log, seats=seats, crowd=False), found)
        if found is None or found[1] != "two":
            self.assertEqual(judge(log, seats=seats, crowd=True), found)
        self.assertEqual(len(log), len(ahead))

    def last(self, log, fault, seats=4):
        """The last row of the log has the first fault."""
        self.of(log[:-1], None, seats)
        self.of(log, (len(log) - 1, fault), seats)

    def test_sound(self):
        self.of([], None)
        self.of([("ask", 0), ("in", 0), ("out", 0), ("ask", 0), ("in", 0), ("out", 0)], None)
        self.of([("ask", 0), ("ask", 1), ("in", 1), ("out", 1), ("in", 0)], None)
        self.of([("put", 0, 1, A), ("put", 0, 1, B), ("came", 0, 1, A), ("came", 0, 1, B), ("put", 0, 1, A)], None)

    def test_shape(self):
        for thing in ODD_THINGS + [0, ("ask",), ("ask", 0, 0), ["ask", 0], ("gone", 1), ("put", 0, 1), ("seat", 1),
                                   ("put", 0, 1, ("gone",)), ("put", 0, 1, ("key", deep(4)))]:
            self.of([thing], (0, "shape"))
            self.of([("ask", 0), ("in", 0), thing, thing], (2, "shape"))
        for seat in no_seats(4):
            self.last([("ask", seat)], "shape")
            self.last([("put", 0, seat, A)], "shape")
            self.last([("gone", seat, 0)], "shape")

    def test_shape_by_seats(self):
        self.of([("ask", 59)], None, seats=60)
        self.assertIsNone(judge([("ask", 59)]))
        self.assertEqual(judge([("ask", 60)]), (0, "shape"))
        self.of([("ask", 1)], (0, "shape"), seats=1)
        self.of([("ask", 69)], None, seats=70)
        with self.assertRaises(TypeError):
            judge([], 4)

    def test_fallen(self):
        for row in (("ask", 1), ("in", 1), ("out", 1), ("fell", 1), ("put", 1, 0, A), ("put", 1, 1, A),
                    ("came", 0, 1, A), ("came", 1, 1, A), ("gone", 0, 1), ("gone", 1, 1), ("gone", 2, 1)):
            self.last([("put", 0, 1, A), ("fell", 1), row], "fallen")
        self.last([("ask", 1), ("fell", 1), ("in", 1)], "fallen")
        self.last([("ask", 1), ("in", 1), ("fell", 1), ("out", 1)], "fallen")
        self.last([("fell", 0), ("fell", 1), ("gone", 0, 1)], "fallen")

    def test_what_the_fallen_put_still_comes(self):
        self.of([("put", 0, 1, A), ("fell", 0), ("put", 1, 0, A), ("came", 0, 1, A), ("gone", 0, 1),
                 ("put", 1, 0, B)], None)

    def test_turn(self):
        self.last([("in", 0)], "turn")
        self.last([("out", 0)], "turn")
        self.last([("ask", 0), ("ask", 0)], "turn")
        self.last([("ask", 0), ("out", 0)], "turn")
        self.last([("ask", 0), ("in", 0), ("ask", 0)], "turn")
        self.last([("ask", 0), ("in", 0), ("in", 0)], "turn")
        self.last([("ask", 0), ("in", 0), ("out", 0), ("out", 0)], "turn")
        self.last([("ask", 0), ("in", 0), ("out", 0), ("in", 0)], "turn")
        self.last([("ask", 0), ("in", 1)], "turn")

    def test_came(self):
        self.last([("came", 0, 1, A)], "road")
        self.last([("put", 0, 1, A), ("came", 0, 1, B)], "road")
        self.last([("put", 0, 1, A), ("came", 1, 0, A)], "road")
        self.last([("put", 0, 1, A), ("came", 0, 2, A)], "road")
        self.last([("put", 0, 1, A), ("came", 2, 1, A)], "road")
        self.last([("put", 0, 1, A), ("put", 0, 1, B), ("came", 0, 1, B)], "road")
        self.last([("put", 0, 1, A), ("put", 0, 1, B), ("came", 0, 1, A), ("came", 0, 1, A)], "road")
        self.last([("put", 0, 1, A), ("came", 0, 1, A), ("came", 0, 1, A)], "road")
        self.of([("put", 0, 0, A), ("came", 0, 0, A)], None)

    def test_gone(self):
        self.last([("gone", 0, 1)], "road")
        self.last([("gone", 1, 1)], "road")
        self.last([("fell", 2), ("gone", 0, 1)], "road")
        self.last([("put", 0, 1, A), ("fell", 0), ("gone", 0, 1)], "road")
        self.last([("fell", 0), ("gone", 0, 1), ("gone", 0, 1)], "road")
        self.of([("put", 0, 2, A), ("put", 1, 1, A), ("fell", 0), ("gone", 0, 1), ("gone", 0, 3)], None)
        self.of([("put", 0, 1, A), ("fell", 0), ("came", 0, 1, A), ("gone", 0, 1)], None)

    def test_two(self):
        log = [("ask", 0), ("ask", 1), ("in", 1), ("in", 0)]
        self.last(log, "two")
        self.assertIsNone(judge(log, seats=4, crowd=True))
        self.of([("ask", 0), ("ask", 1), ("in", 1), ("fell", 1), ("in", 0)], None)
        self.of([("ask", 0), ("ask", 1), ("in", 1), ("out", 1), ("in", 0)], None)
        log += [("out", 1), ("ask", 2), ("in", 2), ("in", 2)]
        self.assertEqual(judge(log, seats=4), (3, "two"))
        self.assertEqual(judge(log, seats=4, crowd=True), (7, "turn"))

    def test_first_fault_of_a_row(self):
        fell = [("put", 0, 1, A), ("put", 2, 3, A), ("fell", 0), ("fell", 1)]
        self.last(fell + [("ask", 9)], "shape")
        self.last(fell + [("in", 1)], "fallen")
        self.last(fell + [("came", 0, 1, B)], "fallen")
        self.last(fell + [("gone", 0, 1)], "fallen")
        self.last([("ask", 0), ("in", 0), ("in", 1)], "turn")
        self.last([("ask", 0), ("in", 0), ("fell", 1), ("in", 1)], "fallen")

    def test_first_row_of_several(self):
        self.of([("ask", 0), ("came", 0, 1, A), None, ("in", 1)], (1, "road"))
        self.of([("ask", 0), None, ("came", 0, 1, A)], (1, "shape"))
        self.of([("ask", 0), ("in", 0), ("ask", 1), ("in", 1), None], (3, "two"))
        self.assertEqual(judge([("ask", 0), ("in", 0), ("ask", 1), ("in", 1), None], crowd=True), (4, "shape"))

    def test_told_as_a_tuple(self):
        self.assertIsInstance(judge([None]), tuple)


if __name__ == "__main__":
    unittest.main()
