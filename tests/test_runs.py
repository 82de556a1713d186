import unittest

from soleseat.base.hall import Hall
from soleseat.base.seats import Puppet
from soleseat.logs.errors import NoLine, NoRow, Unsound
from soleseat.logs.judge import judge
from soleseat.logs.runs import Run, read_run
from things import ODD_THINGS, no_seats

A, B = ("aa",), ("bb", 1, (2, ()))
LOG = [
    ("ask", 0),             # 0
    ("put", 0, 1, A),       # 1
    ("put", 0, 1, A),       # 2
    ("put", 0, 1, B),       # 3
    ("came", 0, 1, A),      # 4
    ("put", 1, 1, B),       # 5
    ("came", 0, 1, A),      # 6
    ("came", 1, 1, B),      # 7
    ("fell", 0),            # 8
    ("ask", 2),             # 9
    ("came", 0, 1, B),      # 10
    ("gone", 0, 2),         # 11
    ("gone", 0, 1),         # 12
    ("in", 2),              # 13
    ("out", 2),             # 14
]
STRAIGHT = [[], [0], [1], [2], [1], [4], [2, 5], [5, 6], [3], [], [3, 7], [8, 9], [8, 10], [11], [13]]
TEXT = """seats 3
ask 0
put 0 1 aa
put 0 1 aa
put 0 1 bb 1 (2 ())
came 0 1 aa
put 1 1 bb 1 (2 ())
came 0 1 aa
came 1 1 bb 1 (2 ())
fell 0
ask 2
came 0 1 bb 1 (2 ())
gone 0 2
gone 0 1
in 2
out 2
"""


class Runs(unittest.TestCase):
    def test_made(self):
        run = Run(LOG, seats=3)
        self.assertEqual((run.seats, len(run), run.rows()), (3, 15, LOG))
        self.assertEqual(Run([]).seats, 60)
        self.assertEqual((Run([], seats=1).rows(), len(Run([]))), ([], 0))
        with self.assertRaises(TypeError):
            Run([], 3)

    def test_two_in_at_once(self):
        log = [("ask", 0), ("ask", 1), ("in", 0), ("in", 1)]
        self.assertEqual(Run(log).rows(), log)

    def test_unsound(self):
        for log, at, why in (([None], 0, "shape"), ([("ask", 3)], 0, "shape"), ([("ask", 0), ("ask", 0)], 1, "turn"),
                             ([("fell", 1), ("fell", 1), None], 1, "fallen"), ([("came", 0, 1, A)], 0, "road"),
                             ([("ask", 0), ("ask", 1), ("in", 0), ("in", 1), ("in", 1), None], 4, "turn")):
            with self.assertRaises(Unsound) as caught:
                Run(log, seats=3)
            self.assertEqual((caught.exception.at, caught.exception.why), (at, why))
            self.assertEqual(judge(log, seats=3, crowd=True), (at, why))
        for thing in ODD_THINGS:
            with self.assertRaises(Unsound):
                Run(LOG + [thing], seats=3)

    def test_a_copy(self):
        log = list(LOG)
        run = Run(log, seats=3)
        log[0] = ("fell", 0)
        log.append(None)
        self.assertEqual(run.rows(), LOG)
        run.rows().append(None)
        run.rows()[0] = None
        self.assertEqual((run.rows(), len(run)), (LOG, 15))

    def test_straight(self):
        run = Run(LOG, seats=3)
        self.assertEqual([run.straight(k) for k in range(15)], STRAIGHT)
        run.straight(7).append(0)
        self.assertEqual(run.straight(7), [5, 6])
        self.assertEqual(Run(LOG).straight(11), [8, 9])

    def test_straight_each_once(self):
        run = Run([("put", 0, 0, A), ("put", 0, 0, A), ("came", 0, 0, A), ("came", 0, 0, A)], seats=1)
        self.assertEqual([run.straight(k) for k in range(4)], [[], [0], [0, 1], [1, 2]])
        run = Run([("put", 0, 0, A), ("came", 0, 0, A)], seats=1)
        self.assertEqual(run.straight(1), [0])

    def test_no_row(self):
        run = Run(LOG, seats=3)
        for thing in no_seats(15):
            with self.assertRaises(NoRow) as caught:
                run.straight(thing)
            self.assertIs(caught.exception.at, thing)
        with self.assertRaises(NoRow):
            Run([]).straight(0)

    def test_equal(self):
        self.assertTrue(Run(LOG, seats=3) == Run(list(LOG), seats=3))
        self.assertFalse(Run(LOG, seats=3) != Run(LOG, seats=3))
        self.assertFalse(Run(LOG, seats=3) == Run(LOG, seats=4))
        self.assertFalse(Run(LOG, seats=3) == Run(LOG[:-1], seats=3))
        self.assertFalse(Run([("ask", 0), ("ask", 1)]) == Run([("ask", 1), ("ask", 0)]))
        for thing in (LOG, TEXT, None, 3):
            self.assertFalse(Run(LOG, seats=3) == thing)

    def test_text(self):
        self.assertEqual(str(Run(LOG, seats=3)), TEXT)
        self.assertEqual(str(Run([], seats=5)), "seats 5\n")
        self.assertEqual(str(Run([])), "seats 60\n")


class Reading(unittest.TestCase):
    def no_line(self, text, at):
        with self.assertRaises(NoLine, msg=text[:80]) as caught:
            read_run(text)
        self.assertEqual(caught.exception.at, at)

    def test_there_and_back(self):
        run = read_run(TEXT)
        self.assertEqual(run, Run(LOG, seats=3))
        self.assertEqual(str(run), TEXT)
        for seats in range(1, 61):
            run = read_run(f"seats {seats}\n")
            self.assertEqual((run.seats, run.rows()), (seats, []))

    def test_first_line(self):
        for line in ("", "seats", "seats ", "seats 0", "seats 61", "seats 05", "seats  5", " seats 5", "seats 5 ",
                     "seats\t5", "seats -1", "seats +5", "seats 5.0", "seats five", "Seats 5", "5", "seat 5", "ask 0",
                     "seats 5 5", "seats \u0665", "seats 5\r", "seats seats 5", "seats (5)", "seats " + "9" * 9999):
            self.no_line(line + "\n", 1)
            self.no_line(line, 1)
            self.no_line(line + "\nask 0\n", 1)
            self.no_line(line + "\nno line\nask 0", 1)

    def test_empty_text(self):
        self.no_line("", 1)
        self.no_line("\n", 1)

    def test_other_lines(self):
        lines = TEXT.split("\n")[:-1]
        for at in range(1, len(lines)):
            for wrong in ("", " ", "ask", "ask 60", "ask  1", "ask 01", "ask 1\t", "put 0 1 aa (", "seats 3", "ask 1\r"):
                changed = lines[:at] + [wrong] + lines[at + 1:]
                self.no_line("\n".join(changed) + "\n", at + 1)
                self.no_line("\n".join(changed + ["no line"]) + "\n", at + 1)
                self.no_line("\n".join(changed + ["ask 0"]), at + 1)

    def test_last_line_end(self):
        self.no_line("seats 3", 1)
        self.no_line("seats 3\nask 0", 2)
        self.no_line(TEXT[:-1], 16)
        self.no_line(TEXT + "ask 0", 17)
        self.no_line(TEXT + " ", 17)
        self.no_line(TEXT + "\n", 17)
        self.no_line("seats 3\n\n", 2)
        self.no_line("seats 3\n\nask 0\n", 2)

    def test_unsound_behind_no_line(self):
        for text, at, why in (("seats 3\nask 3\n", 0, "shape"), ("seats 3\nask 0\nask 59\n", 1, "shape"),
                              ("seats 3\nask 0\nask 0\n", 1, "turn"), ("seats 3\ncame 0 1 aa\n", 0, "road"),
                              ("seats 3\nfell 0\nfell 0\n", 1, "fallen")):
            with self.assertRaises(Unsound) as caught:
                read_run(text)
            self.assertEqual((caught.exception.at, caught.exception.why), (at, why))
        self.no_line("seats 3\nask 3\nask 60\n", 3)
        self.no_line("seats 3\nask 3", 2)
        self.assertEqual(len(read_run("seats 3\nask 0\nask 1\nin 0\nin 1\n")), 4)


class LogsOfHalls(unittest.TestCase):
    def test_the_log_of_a_hall_is_a_run(self):
        plays = [[(False, [(1, A), (2, B), (0, A)]), (False, [(1, A)])], [(True, [(0, B)]), (False, [(2, B), (2, B)])],
                 [(False, [])]]
        hall = Hall([Puppet(me, 3, plays[me]) for me in range(3)], falls=True)
        hall.run([("ask", 0), ("ask", 1), ("carry", 0, 0), ("fall", 1), ("ask", 2), ("carry", 0, 2)])
        hall.calm()
        run = Run(hall.rows(), seats=hall.seats)
        self.assertEqual(read_run(str(run)), run)


if __name__ == "__main__":
    unittest.main()
