import unittest

from soleseat.base.seats import Seat
from soleseat.stamps.stamper import FIRST, Stamper

GREAT = 10 ** 40 - 1


def all_of(stamper):
    return (stamper.state, stamper.count, stamper.stamp, stamper.awaits(), stamper.holds(), stamper.told_gone())


class Stampers(unittest.TestCase):
    def asking(self, me=1, seats=4, count=4):
        stamper = Stamper(me, seats, count=count)
        stamper.ask()
        return stamper

    def within(self, me=1, seats=4, count=4):
        stamper = self.asking(me, seats, count)
        for seat in stamper.awaits():
            stamper.hear(seat, ("yes", 0))
        self.assertEqual(stamper.state, "in")
        return stamper

    def test_new(self):
        stamper = Stamper(2, 5)
        self.assertIsInstance(stamper, Seat)
        self.assertEqual((stamper.me, stamper.sits), (2, False))
        self.assertEqual(all_of(stamper), ("out", 0, None, [], [], []))
        self.assertEqual(FIRST, 0)
        self.assertEqual(Stamper(0, 1, count=GREAT).count, GREAT)
        with self.assertRaises(TypeError):
            Stamper(0, 1, 3)

    def test_ask(self):
        stamper = Stamper(1, 4, count=6)
        self.assertEqual(stamper.ask(), [(0, ("ask", 7)), (2, ("ask", 7)), (3, ("ask", 7))])
        self.assertEqual(all_of(stamper), ("asking", 7, (7, 1), [0, 2, 3], [], []))

    def test_ask_of_who_was_told_gone(self):
        stamper = Stamper(1, 5)
        stamper.gone(4)
        stamper.gone(0)
        self.assertEqual(stamper.told_gone(), [0, 4])
        self.assertEqual(stamper.ask(), [(2, ("ask", 1)), (3, ("ask", 1))])
        self.assertEqual(stamper.awaits(), [2, 3])

    def test_one_alone_is_in_at_once(self):
        stamper = Stamper(0, 1)
        self.assertEqual(stamper.ask(), [])
        self.assertEqual(all_of(stamper), ("in", 1, (1, 0), [], [], []))
        self.assertEqual(stamper.leave(), [])
        self.assertEqual(all_of(stamper), ("out", 1, None, [], [], []))
        stamper.ask()
        self.assertEqual(stamper.stamp, (2, 0))

    def test_alone_behind_end_marks(self):
        stamper = Stamper(1, 3)
        stamper.gone(0)
        stamper.gone(2)
        self.assertEqual(stamper.ask(), [])
        self.assertEqual((stamper.state, stamper.stamp), ("in", (1, 1)))

    def test_count_raised_by_each_letter(self):
        for make in (Stamper, self.asking, self.within):
            for word in ("ask", "yes"):
                stamper = make(1, 4) if make is Stamper else make()
                ahead = stamper.count
                stamper.hear(0, (word, ahead + 5))
                self.assertEqual(stamper.count, ahead + 5)
                stamper.hear(2, (word, ahead + 2))
                self.assertEqual(stamper.count, ahead + 5)
                stamper.hear(3, (word, ahead + 5))
                self.assertEqual(stamper.count, ahead + 5)

    def test_the_stamp_stays_as_the_count_grows(self):
        stamper = self.asking()
        stamper.hear(0, ("yes", 30))
        self.assertEqual((stamper.count, stamper.stamp), (30, (5, 1)))
        stamper.hear(2, ("yes", 0))
        stamper.hear(3, ("yes", 0))
        self.assertEqual((stamper.state, stamper.count, stamper.stamp), ("in", 30, (5, 1)))
        stamper.leave()
        stamper.ask()
        self.assertEqual(stamper.stamp, (31, 1))

    def test_ask_heard_while_out(self):
        stamper = Stamper(1, 4, count=4)
        self.assertEqual(stamper.hear(2, ("ask", 2)), [(2, ("yes", 4))])
        # The count is raised ahead of all else, so the yes bears it.
        self.assertEqual(stamper.hear(2, ("ask", 9)), [(2, ("yes", 9))])
        self.assertEqual(all_of(stamper), ("out", 9, None, [], [], []))

    def test_ask_heard_while_in(self):
        stamper = self.within()
        for sender, count in ((3, 1), (0, 40), (2, 5)):
            self.assertEqual(stamper.hear(sender, ("ask", count)), [])
        self.assertEqual((stamper.holds(), stamper.count), ([3, 0, 2], 40))

    def test_ask_heard_while_asking(self):
        # The own stamp is (5, 1): held is who asks with one behind it.
        for sender, count, held in ((0, 5, False), (2, 5, True), (3, 4, False), (0, 6, True), (2, 4, False),
                                    (0, 4, False), (3, 6, True)):
            stamper = self.asking()
            answer = stamper.hear(sender, ("ask", count))
            self.assertEqual(answer, [] if held else [(sender, ("yes", max(5, count)))])
            self.assertEqual(stamper.holds(), [sender] if held else [])
            self.assertEqual((stamper.state, stamper.awaits()), ("asking", [0, 2, 3]))

    def test_held_behind_those_that_are_held(self):
        stamper = self.asking()
        for sender in (3, 0, 2):
            stamper.hear(sender, ("ask", 8))
        self.assertEqual(stamper.holds(), [3, 0, 2])

    def test_yes_heard(self):
        stamper = self.asking()
        self.assertEqual(stamper.hear(2, ("yes", 0)), [])
        self.assertEqual((stamper.awaits(), stamper.state), ([0, 3], "asking"))
        self.assertEqual(stamper.hear(3, ("yes", 9)), [])
        self.assertEqual((stamper.awaits(), stamper.state), ([0], "asking"))
        self.assertEqual(stamper.hear(0, ("yes", 1)), [])
        self.assertEqual(all_of(stamper), ("in", 9, (5, 1), [], [], []))

    def test_leave(self):
        stamper = self.within()
        for sender, count in ((3, 1), (0, 40), (2, 5)):
            stamper.hear(sender, ("ask", count))
        self.assertEqual(stamper.leave(), [(3, ("yes", 40)), (0, ("yes", 40)), (2, ("yes", 40))])
        self.assertEqual(all_of(stamper), ("out", 40, None, [], [], []))
        stamper.ask()
        self.assertEqual((stamper.stamp, stamper.holds()), ((41, 1), []))

    def test_gone_while_asking(self):
        stamper = self.asking()
        stamper.hear(3, ("ask", 8))
        stamper.hear(2, ("ask", 8))
        self.assertEqual(stamper.gone(3), [])
        self.assertEqual(all_of(stamper), ("asking", 8, (5, 1), [0, 2], [2], [3]))
        stamper.hear(0, ("yes", 1))
        self.assertEqual(stamper.gone(2), [])
        self.assertEqual(all_of(stamper), ("in", 8, (5, 1), [], [], [2, 3]))

    def test_gone_of_who_said_yes(self):
        stamper = self.asking()
        stamper.hear(3, ("yes", 1))
        stamper.gone(3)
        self.assertEqual((stamper.awaits(), stamper.state), ([0, 2], "asking"))

    def test_gone_while_in_and_out(self):
        stamper = self.within()
        stamper.hear(2, ("ask", 9))
        stamper.hear(3, ("ask", 9))
        self.assertEqual(stamper.gone(2), [])
        self.assertEqual((stamper.state, stamper.holds(), stamper.told_gone()), ("in", [3], [2]))
        self.assertEqual(stamper.leave(), [(3, ("yes", 9))])
        self.assertEqual(stamper.gone(0), [])
        self.assertEqual((stamper.state, stamper.stamp, stamper.told_gone()), ("out", None, [0, 2]))
        self.assertEqual(stamper.ask(), [(3, ("ask", 10))])

    def test_great_counts(self):
        stamper = Stamper(0, 2, count=GREAT)
        self.assertEqual(stamper.ask(), [(1, ("ask", 10 ** 40))])
        self.assertEqual(stamper.stamp, (10 ** 40, 0))
        self.assertEqual(stamper.hear(1, ("ask", GREAT)), [(1, ("yes", 10 ** 40))])
        self.assertEqual(stamper.hear(1, ("ask", 10 ** 40 + 7)), [])
        self.assertEqual(stamper.count, 10 ** 40 + 7)

    def test_lists_of_their_own(self):
        stamper = self.asking()
        stamper.gone(3)
        stamper.hear(2, ("ask", 9))
        for told, wanted in ((stamper.awaits, [0, 2]), (stamper.holds, [2]), (stamper.told_gone, [3])):
            there = told()
            self.assertEqual(there, wanted)
            there.append(0)
            there[0] = 3
            self.assertEqual(told(), wanted)

    def test_sharing_nothing(self):
        one, other = Stamper(0, 3), Stamper(1, 3)
        one.ask()
        one.gone(2)
        one.hear(1, ("ask", 7))
        self.assertEqual(all_of(other), ("out", 0, None, [], [], []))


if __name__ == "__main__":
    unittest.main()
