import unittest

from soleseat.logs.cuts import Cut
from soleseat.logs.errors import NoRow
from soleseat.logs.known import chain, closed, known, marks, past
from soleseat.logs.rows import seat_of
from soleseat.logs.runs import Run
from test_random_halls import STORIES
from things import no_seats

A, B = ("aa",), ("bb", 1)
LOG = [
    ("ask", 0),             # 0
    ("put", 0, 1, A),       # 1
    ("put", 0, 1, A),       # 2
    ("ask", 2),             # 3
    ("came", 0, 1, A),      # 4
    ("put", 1, 2, B),       # 5
    ("came", 0, 1, A),      # 6
    ("fell", 0),            # 7
    ("came", 1, 2, B),      # 8
    ("gone", 0, 2),         # 9
    ("in", 2),              # 10
    ("gone", 0, 1),         # 11
]
RUN = Run(LOG, seats=3)
PASTS = ["0", "0-1", "0-2", "3", "0-1 4", "0-1 4-5", "0-2 4-6", "0-2 7", "0-1 3-5 8", "0-5 7-9", "0-5 7-10",
         "0-2 4-7 11"]


def plain_pasts(run):
    """For each row the set of the rows that are known to it."""
    pasts = []
    for k in range(len(run)):
        pasts.append({k}.union(*[pasts[ahead] for ahead in run.straight(k)]))
    return pasts


def plain_marks(run):
    rows = run.rows()
    return [tuple(sum(seat_of(rows[row]) == seat for row in there) for seat in range(run.seats))
            for there in plain_pasts(run)]


def long_run(many):
    """A run of one seat: letters put and come by turns."""
    return Run([("put", 0, 0, A), ("came", 0, 0, A)] * many, seats=1)


class Known(unittest.TestCase):
    def check_chain(self, run, i, j, links):
        self.assertEqual((links[0], links[-1]), (i, j))
        for ahead, row in zip(links, links[1:]):
            self.assertIn(ahead, run.straight(row))

    def test_pasts(self):
        self.assertEqual([str(past(RUN, j)) for j in range(12)], PASTS)
        self.assertIsInstance(past(RUN, 0), Cut)

    def test_known(self):
        for j in range(12):
            there = past(RUN, j).rows()
            self.assertEqual([i for i in range(12) if known(RUN, i, j)], there)
        self.assertIs(known(RUN, 0, 4), True)
        self.assertIs(known(RUN, 4, 0), False)
        self.assertIs(known(RUN, 3, 3), True)

    def test_chain(self):
        self.assertEqual(chain(RUN, 7, 10), [7, 9, 10])
        self.assertEqual(chain(RUN, 4, 10), [4, 5, 8, 9, 10])
        self.assertEqual(chain(RUN, 5, 5), [5])
        self.assertIsNone(chain(RUN, 6, 10))
        self.assertIsNone(chain(RUN, 10, 7))
        self.assertIsNone(chain(RUN, 3, 4))
        for j in range(12):
            for i in range(12):
                links = chain(RUN, i, j)
                self.assertEqual(links is not None, known(RUN, i, j))
                if links is not None:
                    self.check_chain(RUN, i, j, links)

    def test_like_letters_come_in_their_order(self):
        self.assertTrue(known(RUN, 1, 4))
        self.assertFalse(known(RUN, 2, 4))
        self.assertTrue(known(RUN, 2, 6))

    def test_marks(self):
        told = marks(RUN)
        self.assertEqual(told, plain_marks(RUN))
        self.assertEqual(told[:5], [(1, 0, 0), (2, 0, 0), (3, 0, 0), (0, 0, 1), (2, 1, 0)])
        self.assertEqual([type(mark) for mark in told], [tuple] * 12)
        self.assertEqual(marks(Run([])), [])
        self.assertEqual(marks(Run([("ask", 59)])), [(0,) * 59 + (1,)])

    def test_closed(self):
        for rows, wanted in (([], True), ([0], True), ([1], False), ([0, 1], True), ([0, 1, 4], True), ([0, 4], False),
                             (range(12), True), ([3], True), ([9], False), ([0, 1, 2, 7], True), ([0, 1, 3, 8], False)):
            self.assertIs(closed(RUN, Cut(list(rows))), wanted, rows)

    def test_closed_of_what_is_no_row(self):
        for row in (-1, 12, 13, 10 ** 40, -12):
            self.assertIs(closed(RUN, Cut([row])), False)
            self.assertIs(closed(RUN, Cut(list(range(12)) + [row])), False)
        self.assertIs(closed(Run([]), Cut([0])), False)
        self.assertIs(closed(Run([]), Cut()), True)

    def test_no_row(self):
        def refused(wanted, told, *handed):
            with self.assertRaises(NoRow) as caught:
                told(RUN, *handed)
            self.assertIs(caught.exception.at, wanted)
        for thing in no_seats(12):
            refused(thing, past, thing)
            for told in (known, chain):
                refused(thing, told, thing, 3)
                refused(thing, told, 3, thing)
                refused(thing, told, 11, thing)
                for other in (None, -1, 12):
                    refused(thing, told, thing, other)
        with self.assertRaises(NoRow):
            past(Run([]), 0)

    def test_what_is_told_is_the_askers_own(self):
        chain(RUN, 4, 10).append(3)
        marks(RUN).append(())
        past(RUN, 10).rows().append(11)
        self.assertEqual(chain(RUN, 4, 10), [4, 5, 8, 9, 10])
        self.assertEqual((len(marks(RUN)), str(past(RUN, 10))), (12, PASTS[10]))
        self.assertEqual(RUN.rows(), LOG)


class LongRuns(unittest.TestCase):
    def test_a_run_of_one_seat(self):
        run = long_run(1500)
        self.assertEqual(past(run, 2999), Cut(list(range(3000))))
        self.assertEqual(past(run, 1700), Cut(list(range(1701))))
        self.assertTrue(known(run, 0, 2999))
        self.assertFalse(known(run, 2999, 0))
        links = chain(run, 0, 2999)
        self.assertEqual((links[0], links[-1]), (0, 2999))
        for ahead, row in zip(links, links[1:]):
            self.assertIn(ahead, run.straight(row))
        self.assertEqual(marks(run), [(k,) for k in range(1, 3001)])
        self.assertTrue(closed(run, past(run, 2500)))

    def test_letters_that_lie_long(self):
        run = Run([("put", 0, 1, A)] * 1200 + [("came", 0, 1, A)] * 1200, seats=2)
        self.assertEqual(str(past(run, 1200)), "0 1200")
        self.assertEqual(str(past(run, 1800)), "0-600 1200-1800")
        self.assertIsNone(chain(run, 601, 1800))
        self.assertEqual(marks(run)[2399], (1200, 1200))


class RandomRuns(unittest.TestCase):
    def test_word_by_word(self):
        for story in STORIES[:60]:
            log = story.hall().rows()
            run = Run(log, seats=story.seats)
            pasts = plain_pasts(run)
            told = marks(run)
            self.assertEqual(told, plain_marks(run))
            for j in range(len(run)):
                cut = past(run, j)
                self.assertEqual(cut, Cut(sorted(pasts[j])))
                self.assertTrue(closed(run, cut))
                self.assertFalse(any(closed(run, Cut([row for row in cut.rows() if row != other]))
                                     for other in cut.rows() if other != j))
                for i in range(0, len(run), 3):
                    self.assertEqual(known(run, i, j), i in pasts[j])
                    self.assertEqual(known(run, i, j), all(one <= other for one, other in zip(told[i], told[j])))
                    links = chain(run, i, j)
                    self.assertEqual(links is None, i not in pasts[j])
                    if links is not None:
                        self.assertEqual((links[0], links[-1]), (i, j))
                        self.assertTrue(all(one in run.straight(two) for one, two in zip(links, links[1:])))

    def test_closed_cuts_joined_and_shared(self):
        for story in STORIES[:40]:
            run = Run(story.hall().rows(), seats=story.seats)
            for j in range(0, len(run), 5):
                one, other = past(run, j), past(run, story.chance.randrange(len(run)))
                self.assertTrue(closed(run, one.joined(other)))
                self.assertTrue(closed(run, one.shared(other)))


if __name__ == "__main__":
    unittest.main()
