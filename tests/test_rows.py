import unittest

from soleseat.base.post import SEATS
from soleseat.logs import rows as rows_file
from soleseat.logs.errors import NoLine
from soleseat.logs.rows import is_row, read_row, row_text, seat_of
from things import ODD_THINGS, Odd, deep, no_seats

A = ("key",)
TOP = 10 ** 60

# Rows with their texts and the seats whose rows they are.
ROWS = [
    (("ask", 3), "ask 3", 3),
    (("in", 0), "in 0", 0),
    (("out", 59), "out 59", 59),
    (("fell", 10), "fell 10", 10),
    (("gone", 3, 4), "gone 3 4", 4),
    (("gone", 0, 0), "gone 0 0", 0),
    (("put", 0, 2, ("key", 3, ((0, 1), (2, 0)), ())), "put 0 2 key 3 ((0 1) (2 0)) ()", 0),
    (("put", 5, 5, ("a",)), "put 5 5 a", 5),
    (("came", 1, 2, ("ask", 0)), "came 1 2 ask 0", 2),
    (("came", 59, 0, ("abcdefgh", ())), "came 59 0 abcdefgh ()", 0),
    (("put", 0, 1, ("in", 1, (2,), 3)), "put 0 1 in 1 (2) 3", 0),
    (("put", 0, 1, ("x", ((), ()), (((),),), (((0,),), 1))), "put 0 1 x (() ()) ((())) (((0)) 1)", 0),
    (("put", 0, 1, ("x", TOP - 1, (TOP - 1,))), "put 0 1 x {0} ({0})".format("9" * 60), 0),
    (("came", 10, 20, ("yes", 10, 200, 3000)), "came 10 20 yes 10 200 3000", 20),
]

NO_LINES = [
    "", " ", "ask", "ask ", " ask 3", "ask 3 ", "ask  3", "ask\t3", "ask 3\t", "ask 3\n", "\nask 3", "ask 3\r",
    "ask\n3", "ask 03", "ask 00", "ask -1", "ask +1", "ask 1.0", "ask 1_0", "ask 60", "ask 100", "ask x", "ask 3 4",
    "ask (3)", "(ask 3)", "ask\u00a03", "ask \u0663", "ask \u00b2", "Ask 3", "ask3", "3", "3 ask", "ask three",
    "carry 1 2", "leave 1", "asking 3", "in", "out 1 2", "fell", "fell 60",
    "gone 3", "gone 3 4 5", "gone 3 60", "gone 60 3", "gone 3  4", "gone 03 4", "gone 3 4 key", "gone 3 4 ()",
    "put 0 2", "put 0 2 ", "put 0 key", "put 0 2 3", "put 0 2 ()", "put 0 2 gone", "put 0 2 Key", "put 0 2 abcdefghi",
    "put 0 2 key ", "put 0 2  key", "put 0 2 key  3", "put 0 2 key 03", "put 0 2 key 3 key", "put 0 2 key -3",
    "put 0 2 key (", "put 0 2 key )", "put 0 2 key (()", "put 0 2 key ())", "put 0 2 key )(", "put 0 2 key ( )",
    "put 0 2 key (0 )", "put 0 2 key ( 0)", "put 0 2 key (0  1)", "put 0 2 key (0,1)", "put 0 2 key(0)",
    "put 0 2 key ()()", "put 0 2 key (0)(1)", "put 0 2 key 3()", "put 0 2 key ()3", "put 0 2 key (00)",
    "put 0 2 key ((((0))))", "put 0 2 key ((((", "put 0 2 key (((())))", "put 0 2 (key)", "put (0) 2 key",
    "put 0 2 key?", "put 0 2 key 3;", "put 0 2 key [0]", "put 60 0 key", "put 0 60 key", "put 00 2 key",
    "put 0 2 key 1" + "0" * 60, "put 0 2 key 0" + "9" * 59, "put 0 2 key " + "9" * 61, "ask " + "9" * 10000,
    "put 0 2 key " + "(" * 100000 + ")" * 100000, "(" * 100000, ")" * 100000, "put 0 2 key " + "(" * 100000,
    "came 0 2", "came 0 2 gone", "came 60 2 key", "came 0 2 key 3 ", "put 0 2 key\x0b3", "put 0 2 key\x1c3",
    "put 0 2 k\u00e9y", "#ask 3", "ask 3 #", "seats 5", "()", "( )", "put 0 2 key\tkey",
]


class IsRow(unittest.TestCase):
    def test_rows(self):
        for row, _, _ in ROWS:
            self.assertIs(is_row(row), True)

    def test_no_rows_of_anything(self):
        for thing in ODD_THINGS + [0, 1]:
            self.assertIs(is_row(thing), False)
        for row, _, _ in ROWS:
            for thing in (list(row), row + (0,), row[:-1], (row,), row[1:], row + (A,), ("",) + row[1:],
                          (row[0].upper(),) + row[1:], (row[0] + " ",) + row[1:], str(row)):
                self.assertIs(is_row(thing), False)
            for thing in ODD_THINGS:
                if not isinstance(thing, str):
                    self.assertIs(is_row((thing,) + row[1:]), False)
        self.assertIs(is_row((Odd(), 1)), False)
        self.assertIs(is_row(("ask",) + (1,) * 10 ** 6), False)

    def test_seats(self):
        self.assertEqual(SEATS, 60)
        self.assertEqual(rows_file.SEATS, SEATS)
        for seats in (1, 2, 5, 60, 70):
            for row in (("ask", None), ("in", None), ("out", None), ("fell", None), ("put", None, 0, A),
                        ("put", 0, None, A), ("came", None, 0, A), ("came", 0, None, A), ("gone", None, 0),
                        ("gone", 0, None)):
                at = row.index(None)
                for seat in (0, seats - 1):
                    self.assertIs(is_row(row[:at] + (seat,) + row[at + 1:], seats=seats), True)
                for seat in no_seats(seats):
                    self.assertIs(is_row(row[:at] + (seat,) + row[at + 1:], seats=seats), False)
        self.assertIs(is_row(("ask", 59)), True)
        self.assertIs(is_row(("ask", 60)), False)
        with self.assertRaises(TypeError):
            is_row(("ask", 0), 5)

    def test_letters(self):
        for word in ("put", "came"):
            for thing in ODD_THINGS + [0, ("gone",), ("key", -1), ("key", deep(4)), ["key"]]:
                self.assertIs(is_row((word, 0, 1, thing)), False)
            self.assertIs(is_row((word, 0, 1, ("key", deep(3)))), True)


class Texts(unittest.TestCase):
    def test_seat_of(self):
        for row, _, seat in ROWS:
            self.assertEqual(seat_of(row), seat)

    def test_written(self):
        for row, text, _ in ROWS:
            self.assertEqual(row_text(row), text)

    def test_read(self):
        for row, text, _ in ROWS:
            told = read_row(text)
            self.assertEqual(told, row)
            self.assertIs(is_row(told), True)
            self.assertEqual(row_text(told), text)

    def test_no_lines(self):
        for line in NO_LINES:
            with self.assertRaises(NoLine, msg=line[:80]) as caught:
                read_row(line)
            self.assertEqual(caught.exception.at, 1)

    def test_changed_texts(self):
        """Each text with a sign put in or taken out is either refused or the text of what it is read as."""
        read = 0
        for _, text, _ in ROWS:
            changed = [text[:at] + sign + text[at:] for at in range(len(text) + 1) for sign in " 0a()\n\t"]
            changed += [text[:at] + text[at + 1:] for at in range(len(text))]
            for line in changed:
                try:
                    row = read_row(line)
                except NoLine:
                    continue
                read += 1
                self.assertTrue(is_row(row))
                self.assertEqual(row_text(row), line)
        self.assertGreater(read, 50)


if __name__ == "__main__":
    unittest.main()
