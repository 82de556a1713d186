import random
import unittest

from driving import Drive, fallen_of, machines_of
from soleseat.stamps.halls import stamp_hall
from soleseat.stamps.papers import cases, coming

END_MARK = ("gone",)


def cases_of(hall):
    return cases(machines_of(hall), hall.under_way(), fallen=fallen_of(hall))


def plain_cases(hall):
    """Each case that is true, looked for one by one."""
    machines, fallen = machines_of(hall), fallen_of(hall)
    found = []
    for asker in hall.waiters():
        for other in machines[asker].awaits():
            words = [letter[0] for letter in hall.letters(other, asker)]
            said = "yes" in words
            true = [said, other in fallen and not said and "gone" in words,
                    other not in fallen and asker in machines[other].holds(),
                    other not in fallen and "ask" in [letter[0] for letter in hall.letters(asker, other)]]
            names = ("said", "marked", "held", "asked")
            found += [(asker, other, name) for name, is_so in zip(names, true) if is_so]
    return sorted(found)


class Cases(unittest.TestCase):
    def test_none(self):
        hall = stamp_hall(3)
        self.assertEqual(cases_of(hall), [])
        hall.ask(1)
        hall.calm(most=4)
        self.assertEqual((str(hall), cases_of(hall)), ("out in out", []))

    def test_asked_said_and_held(self):
        hall = stamp_hall(3)
        hall.run([("ask", 2), ("ask", 0)])
        self.assertEqual(cases_of(hall), [(0, 1, "asked"), (0, 2, "asked"), (2, 0, "asked"), (2, 1, "asked")])
        hall.run([("carry", 0, 1), ("carry", 0, 2), ("carry", 2, 0)])
        self.assertEqual(cases_of(hall), [(0, 1, "said"), (0, 2, "said"), (2, 0, "held"), (2, 1, "asked")])
        hall.run([("carry", 1, 0), ("carry", 2, 0)])
        self.assertEqual((str(hall), cases_of(hall)), ("in out asking", [(2, 0, "held"), (2, 1, "asked")]))
        hall.leave(0)
        self.assertEqual(cases_of(hall), [(2, 0, "said"), (2, 1, "asked")])

    def test_falls(self):
        hall = stamp_hall(4, falls=True)
        hall.run([("ask", 0), ("carry", 0, 1), ("fall", 1), ("fall", 2)])
        self.assertEqual(cases_of(hall), [(0, 1, "said"), (0, 2, "marked"), (0, 3, "asked")])
        hall.carry(1, 0)
        self.assertEqual(cases_of(hall), [(0, 2, "marked"), (0, 3, "asked")])
        hall.run([("ask", 3), ("carry", 2, 0)])
        self.assertEqual(cases_of(hall), [(0, 3, "asked"), (3, 0, "asked"), (3, 1, "marked"), (3, 2, "marked")])
        # Who fell is no asker more.
        hall.fall(0)
        self.assertEqual(cases_of(hall), [(3, 0, "marked"), (3, 1, "marked"), (3, 2, "marked")])

    def test_with_and_without_end_marks(self):
        hall = stamp_hall(4, falls=True)
        hall.run([("ask", 0), ("ask", 3), ("carry", 0, 1), ("fall", 1), ("fall", 2), ("carry", 3, 0)])
        letters = hall.under_way()
        self.assertIn((2, 0, END_MARK), letters)
        bare = [row for row in letters if row[2] != END_MARK]
        wanted = [(0, 1, "said"), (0, 2, "marked"), (0, 3, "asked"), (3, 0, "held"), (3, 1, "marked"), (3, 2, "marked")]
        for rows in (letters, bare):
            for fallen in ([1, 2], [2, 1], (2, 1)):
                self.assertEqual(cases(machines_of(hall), rows, fallen=fallen), wanted)
        self.assertEqual(hall.under_way(), letters)

    def test_fallen_left_out(self):
        hall = stamp_hall(2)
        hall.ask(1)
        self.assertEqual(cases(machines_of(hall), hall.under_way()), [(1, 0, "asked")])

    def test_random_halls(self):
        words = {}
        for seed in range(150):
            chance = random.Random(seed)
            seats = chance.randrange(1, 7)

            def look(hall):
                told = cases_of(hall)
                self.assertEqual(told, plain_cases(hall))
                machines = machines_of(hall)
                self.assertEqual([row[:2] for row in told],
                                 [(asker, other) for asker in hall.waiters() for other in machines[asker].awaits()])
                for asker, other, word in told:
                    words[word] = words.get(word, 0) + 1
                    if word == "held":
                        holder = machines[other]
                        self.assertTrue(holder.state == "in" or holder.state == "asking"
                                        and holder.stamp < machines[asker].stamp)

            hall = stamp_hall(seats, counts=[chance.randrange(5) for _ in range(chance.randrange(seats))], falls=True)
            Drive(hall, seed, falls=seed % 4, asks=10, look=look).go()
        for word in ("said", "marked", "held", "asked"):
            self.assertGreater(words[word], 100, word)


class Coming(unittest.TestCase):
    def test_by_stamps(self):
        hall = stamp_hall(4, counts=[5, 2, 2, 0], falls=True)
        self.assertEqual(coming(machines_of(hall)), [])
        hall.run([("ask", 0), ("ask", 2), ("ask", 1)])
        self.assertEqual(coming(machines_of(hall)), [1, 2, 0])
        hall.ask(3)
        self.assertEqual(coming(machines_of(hall), fallen=()), [3, 1, 2, 0])
        hall.run([("fall", 1), ("fall", 3)])
        for fallen in ([1, 3], [3, 1], (3, 1)):
            self.assertEqual(coming(machines_of(hall), fallen=fallen), [2, 0])

    def test_who_is_in_comes_no_more(self):
        hall = stamp_hall(2)
        hall.run([("ask", 1), ("ask", 0), ("carry", 0, 1), ("carry", 1, 0), ("carry", 1, 0)])
        self.assertEqual((str(hall), coming(machines_of(hall))), ("in asking", [1]))


if __name__ == "__main__":
    unittest.main()
