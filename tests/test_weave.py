import itertools
import unittest

from soleseat.logs.cuts import Cut
from soleseat.logs.errors import NoOrder, NotClosed
from soleseat.logs.judge import judge
from soleseat.logs.known import closed, known, past
from soleseat.logs.runs import Run
from soleseat.logs.weave import laid_ahead, woven
from test_known import LOG, RUN
from test_random_halls import STORIES
from things import no_seats

A = ("aa",)


class Weavings(unittest.TestCase):
    def no_order(self, run, order, at):
        with self.assertRaises(NoOrder) as caught:
            woven(run, order)
        self.assertEqual(caught.exception.at, at)

    def test_the_same_order(self):
        self.assertEqual(woven(RUN, list(range(12))), RUN)
        self.assertEqual(woven(Run([], seats=4), []), Run([], seats=4))

    def test_another_order(self):
        order = [3, 0, 1, 4, 5, 8, 2, 7, 9, 10, 6, 11]
        weaving = woven(RUN, order)
        self.assertIsInstance(weaving, Run)
        self.assertEqual(weaving.seats, 3)
        self.assertEqual(weaving.rows(), [LOG[k] for k in order])
        self.assertEqual(RUN.rows(), LOG)

    def test_as_many_seats(self):
        self.assertEqual(woven(Run([("ask", 0)], seats=7), [0]).seats, 7)
        self.assertEqual(laid_ahead(Run([("ask", 0)], seats=7), Cut()).seats, 7)

    def test_all_orders(self):
        run = Run([("put", 0, 1, A), ("put", 0, 1, A), ("ask", 2), ("came", 0, 1, A), ("fell", 2), ("gone", 2, 1)],
                  seats=3)
        good = 0
        for order in itertools.permutations(range(6)):
            behind = [at for at in range(6) if not set(run.straight(order[at])) <= set(order[:at])]
            if behind:
                self.no_order(run, list(order), behind[0])
            else:
                weaving = woven(run, list(order))
                self.assertIsNone(judge(weaving.rows(), seats=3, crowd=True))
                for i in range(6):
                    for j in range(6):
                        self.assertEqual(known(weaving, order.index(i), order.index(j)), known(run, i, j))
                good += 1
        self.assertGreater(good, 5)

    def test_no_row_of_anything(self):
        for thing in no_seats(12):
            self.no_order(RUN, [thing], 0)
            self.no_order(RUN, [0, 1, thing], 2)
            self.no_order(RUN, list(range(12)) + [thing], 12)
            self.no_order(RUN, [0, thing, 0, 11], 1)

    def test_a_row_twice(self):
        self.no_order(RUN, [0, 0], 1)
        self.no_order(RUN, [0, 1, 3, 0, None], 3)
        self.no_order(RUN, list(range(12)) + [5], 12)

    def test_ahead_of_what_it_follows(self):
        self.no_order(RUN, [1], 0)
        self.no_order(RUN, [0, 3, 2, 1], 2)
        self.no_order(RUN, [0, 1, 2, 3, 6], 4)

    def test_rows_left_out(self):
        self.no_order(RUN, [], 0)
        self.no_order(RUN, [0], 1)
        self.no_order(RUN, list(range(11)), 11)
        self.no_order(RUN, [3, 0, 1], 3)

    def test_laid_ahead(self):
        cut = past(RUN, 9)
        self.assertEqual(laid_ahead(RUN, cut).rows(), [LOG[k] for k in (0, 1, 2, 3, 4, 5, 7, 8, 9, 6, 10, 11)])
        self.assertEqual(laid_ahead(RUN, Cut()), RUN)
        self.assertEqual(laid_ahead(RUN, Cut(list(range(12)))), RUN)
        self.assertEqual(laid_ahead(RUN, Cut([3])).rows(), [LOG[3]] + LOG[:3] + LOG[4:])
        self.assertEqual(laid_ahead(Run([]), Cut()), Run([]))

    def test_not_closed(self):
        for rows in ([1], [9], [0, 4], [12], [-1], list(range(13)), [10 ** 50], [0, -1]):
            with self.assertRaises(NotClosed):
                laid_ahead(RUN, Cut(rows))

    def test_random_runs(self):
        for story in STORIES[:60]:
            run = Run(story.hall().rows(), seats=story.seats)
            order, left = [], list(range(len(run)))
            while left:
                row = story.chance.choice([row for row in left if set(run.straight(row)) <= set(order)])
                order.append(row)
                left.remove(row)
            weaving = woven(run, order)
            self.assertEqual(weaving.rows(), [run.rows()[row] for row in order])
            for _ in range(20):
                i, j = story.chance.randrange(len(run)), story.chance.randrange(len(run))
                self.assertEqual(known(run, i, j), known(weaving, order.index(i), order.index(j)))
            cut = past(run, story.chance.randrange(len(run))).joined(past(run, story.chance.randrange(len(run))))
            ahead = laid_ahead(run, cut)
            others = [row for row in range(len(run)) if not cut.has(row)]
            self.assertEqual(ahead.rows(), [run.rows()[row] for row in cut.rows() + others])
            wrong = Cut([row for row in range(len(run)) if story.chance.random() < 0.5])
            if not closed(run, wrong):
                with self.assertRaises(NotClosed):
                    laid_ahead(run, wrong)


if __name__ == "__main__":
    unittest.main()
