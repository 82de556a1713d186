import unittest

from soleseat.logs.cuts import Cut
from soleseat.logs.goings import asks, goings, passed, sole
from soleseat.logs.judge import judge
from soleseat.logs.known import closed, known, past
from soleseat.logs.rows import seat_of
from soleseat.logs.runs import Run
from soleseat.logs.weave import laid_ahead
from test_random_halls import STORIES, plain_state

A = ("aa",)


def run_of(text, seats=5):
    """A run told by short words: a0 an ask of seat 0, i0 in, o0 out, f0 fell, p01 put, c01 came, g01 gone."""
    words = {"a": "ask", "i": "in", "o": "out", "f": "fell", "p": "put", "c": "came", "g": "gone"}
    rows = []
    for told in text.split():
        row = (words[told[0]],) + tuple(int(figure) for figure in told[1:])
        rows.append(row + (A,) if told[0] in "pc" else row)
    return Run(rows, seats=seats)


def plain_asks(run):
    rows = run.rows()
    told = []
    for k, row in enumerate(rows):
        if row[0] != "ask":
            continue
        later = [at for at in range(k + 1, len(rows)) if seat_of(rows[at]) == row[1]]
        ends = [at for at in later if rows[at][0] in ("out", "fell")][:1]
        ins = [at for at in later if rows[at][0] == "in" and (not ends or at < ends[0])][:1]
        told.append((row[1], k, ins[0] if ins else None, ends[0] if ends else None))
    return told


def plain_passed(run):
    rows = run.rows()
    told = plain_asks(run)
    found = []
    for g, first in enumerate(told):
        for h in range(g + 1, len(told)):
            second = told[h]
            if second[2] is None or not known(run, first[1], second[1]):
                continue
            same = [row for row in rows[first[1] + 1:second[2]] if row == ("ask", first[0])]
            if plain_state(rows[:second[2]], first[0]) == "asking" and not same:
                found.append((g, h))
    return found


class Asks(unittest.TestCase):
    def test_each_kind(self):
        run = run_of("a0 a1 i0 a2 o0 f1 f0 a3 i3 f3 a4 i4")
        self.assertEqual(asks(run), [(0, 0, 2, 4), (1, 1, None, 5), (2, 3, None, None), (3, 7, 8, 9), (4, 10, 11, None)])
        self.assertEqual(goings(run), [(0, 0, 2, 4), (3, 7, 8, 9), (4, 10, 11, None)])
        self.assertEqual([type(told) for told in asks(run)], [tuple] * 5)

    def test_goings_stand_by_their_ins(self):
        run = run_of("a0 a1 a2 i2 i1 o2 a2 i0")
        self.assertEqual(asks(run), [(0, 0, 7, None), (1, 1, 4, None), (2, 2, 3, 5), (2, 6, None, None)])
        self.assertEqual(goings(run), [(2, 2, 3, 5), (1, 1, 4, None), (0, 0, 7, None)])

    def test_one_seat_again_and_again(self):
        run = run_of("a0 i0 o0 a0 i0 o0 a0 f0 f1")
        self.assertEqual(asks(run), [(0, 0, 1, 2), (0, 3, 4, 5), (0, 6, None, 7)])
        self.assertEqual(goings(run), [(0, 0, 1, 2), (0, 3, 4, 5)])

    def test_rows_of_two_seats_are_none_of_an_ask(self):
        run = run_of("a1 p12 f0 g01 p10 i1 c12")
        self.assertEqual(asks(run), [(1, 0, 5, None)])

    def test_none(self):
        self.assertEqual((asks(Run([])), goings(Run([]))), ([], []))
        self.assertEqual(asks(run_of("f0 p12 c12")), [])


class Sole(unittest.TestCase):
    def test_few_goings(self):
        for text in ("", "a0", "a0 f0", "a0 i0", "a0 i0 o0", "a0 i0 f0"):
            self.assertEqual(sole(run_of(text)), ("sole", []), text)

    def test_chains(self):
        run = run_of("a0 i0 o0 p01 a1 c01 i1 f1 a2 g12 i2")
        self.assertEqual(sole(run), ("sole", [[2, 3, 5, 6], [7, 9, 10]]))
        self.assertEqual(sole(run_of("a0 i0 o0 a0 i0 o0")), ("sole", [[2, 3, 4]]))
        self.assertEqual(sole(run_of("a0 i0 o0 a1 p01 c01 i1")), ("sole", [[2, 4, 5, 6]]))

    def test_an_end_that_is_not_known(self):
        run = run_of("a0 i0 p01 o0 a1 c01 i1 o1")
        self.assertEqual(sole(run), ("both", 0, Cut([0, 1, 2, 4, 5, 6])))

    def test_no_end(self):
        run = run_of("a0 i0 p01 a1 c01 i1")
        self.assertEqual(sole(run), ("both", 0, Cut(range(6))))

    def test_the_first_such(self):
        run = run_of("a0 i0 o0 p01 a1 c01 i1 o1 a2 i2 o2 a3 i3")
        self.assertEqual(sole(run), ("both", 1, Cut([0, 1, 2, 3, 4, 5, 6, 8, 9])))

    def test_an_end_by_a_fall(self):
        self.assertEqual(sole(run_of("a0 i0 f0 a1 g01 i1")), ("sole", [[2, 4, 5]]))
        self.assertEqual(sole(run_of("a0 i0 f0 a1 i1")), ("both", 0, Cut([0, 1, 3, 4])))

    def test_the_first_in_behind_the_second(self):
        # Seat 1 is in first, and its end comes behind the in of seat 0.
        run = run_of("a0 a1 i1 i0 o1 o0")
        self.assertEqual(sole(run), ("both", 0, Cut([0, 1, 2, 3])))

    def check(self, run):
        told = sole(run)
        there = goings(run)
        if told[0] == "sole":
            self.assertEqual(len(told), 2)
            self.assertEqual(len(told[1]), max(0, len(there) - 1))
            for k, links in enumerate(told[1]):
                self.assertEqual((links[0], links[-1]), (there[k][3], there[k + 1][2]))
                self.assertTrue(all(one in run.straight(two) for one, two in zip(links, links[1:])))
            return
        word, k, cut = told
        self.assertEqual(word, "both")
        for at in range(k):
            self.assertTrue(known(run, there[at][3], there[at + 1][2]))
        one, two = there[k], there[k + 1]
        self.assertFalse(one[3] is not None and known(run, one[3], two[2]))
        self.assertEqual(cut, past(run, one[2]).joined(past(run, two[2])))
        self.assertTrue(closed(run, cut))
        self.assertFalse(cut.has(one[3]) or cut.has(two[3]))
        ahead = laid_ahead(run, cut).rows()[:len(cut)]
        self.assertEqual([plain_state(ahead, one[0]), plain_state(ahead, two[0])], ["in", "in"])
        self.assertEqual(judge(ahead, seats=run.seats)[1], "two")

    def test_random_runs(self):
        words = []
        for story in STORIES:
            run = Run(story.hall().rows(), seats=story.seats)
            self.check(run)
            words.append(sole(run)[0])
            self.assertEqual(asks(run), plain_asks(run))
            self.assertEqual(passed(run), plain_passed(run))
        self.assertGreater(words.count("sole"), 20)
        self.assertGreater(words.count("both"), 20)

    def test_by_hand(self):
        for text in ("a0 i0 a1 i1 a2 i2", "a0 i0 f0 a1 g01 i1 f1 a2 i2", "a0 i0 p01 o0 a1 c01 i1 o1"):
            self.check(run_of(text))


class Passed(unittest.TestCase):
    def test_passed(self):
        self.assertEqual(passed(run_of("a0 p01 c01 a1 i1")), [(0, 1)])
        self.assertEqual(passed(run_of("a0 p01 c01 a1 i1 i0 o0")), [(0, 1)])
        self.assertEqual(passed(run_of("a0 p01 c01 a1 i1 f0")), [(0, 1)])

    def test_not_passed(self):
        for text in ("", "a0 i0", "a0 a1 i1", "a0 a1 p01 c01 i1", "p01 a0 c01 a1 i1", "a0 p01 c01 a1 i0 i1",
                     "a0 p01 c01 a1 i0 o0 i1", "a0 p01 c01 a1 f0 i1", "a0 p01 c01 a1", "a0 p01 c01 a1 i0 o0 a0 i1",
                     "a0 i0 o0 a0 i0"):
            self.assertEqual(passed(run_of(text)), [], text)

    def test_an_ask_whose_seat_never_came_in(self):
        run = run_of("a0 p01 c01 a1 i1 o1 p12 c12 a2 i2 o2 a1 f1")
        self.assertEqual(passed(run), [(0, 1), (0, 2)])

    def test_rising(self):
        run = run_of("a0 p01 c01 a1 p12 c12 a2 i2 o2 i1")
        self.assertEqual(passed(run), [(0, 1), (0, 2), (1, 2)])

    def test_the_later_ask_of_a_seat_that_fell(self):
        # Seat 0 asks anew; its first ask was ended, the second one was not known.
        self.assertEqual(passed(run_of("a0 p01 c01 i0 o0 a0 a1 i1")), [])


class Own(unittest.TestCase):
    def test_what_is_told_is_the_askers_own(self):
        run = run_of("a0 i0 o0 p01 a1 c01 i1 f1 a2 g12 i2")
        for told in (asks, goings, passed):
            wanted = told(run)
            told(run).append(None)
            self.assertEqual(told(run), wanted)
        sole(run)[1][0].append(None)
        self.assertEqual(sole(run)[1], [[2, 3, 5, 6], [7, 9, 10]])


if __name__ == "__main__":
    unittest.main()
