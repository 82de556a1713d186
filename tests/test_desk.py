import random
import unittest

from soleseat.votes.desk import Desk

# The lesser is ahead.
S1, S2, S3, S4 = (1, 4, 0), (2, 0, 0), (2, 1, 0), (2, 1, 3)


def all_of(desk):
    return desk.holder, desk.queue, desk.called


def desk_of(holder, queue=(), called=False):
    """A desk with a holder and those that wait, brought there by deeds."""
    desk = Desk()
    desk.take_ask(holder)
    for stamp in sorted(queue, reverse=not called):
        desk.take_ask(stamp)
    return desk


class PlainDesk:
    """The sentences of point 43, one by one."""

    def __init__(self):
        self.holder = None
        self.waiting = []
        self.called = False

    def take_ask(self, stamp):
        sent = []
        self.waiting.append(stamp)
        if self.holder is not None and min(stamp, self.holder) == stamp and not self.called:
            self.called = True
            sent.append(("back", self.holder))
        return sent + self.end()

    def take_given(self, stamp):
        if self.holder == stamp:
            self.waiting.append(stamp)
            self.free()
        return self.end()

    def take_done(self, stamp):
        if self.holder == stamp:
            self.free()
        elif stamp in self.waiting:
            self.waiting.remove(stamp)
        return self.end()

    def take_gone(self, seat):
        self.waiting = [stamp for stamp in self.waiting if stamp[1] != seat]
        if self.holder is not None and self.holder[1] == seat:
            self.free()
        return self.end()

    def free(self):
        self.holder = None
        self.called = False

    def end(self):
        if self.holder is None and self.waiting:
            self.holder = min(self.waiting)
            self.waiting.remove(self.holder)
            self.called = False
            return [("vote", self.holder)]
        return []


class Desks(unittest.TestCase):
    def test_new(self):
        desk = Desk()
        self.assertEqual((all_of(desk), len(desk)), ((None, (), False), 0))

    def test_ask_of_a_free_vote(self):
        desk = Desk()
        self.assertEqual(desk.take_ask(S3), [("vote", S3)])
        self.assertEqual((all_of(desk), len(desk)), ((S3, (), False), 0))

    def test_ask_behind_the_holder(self):
        desk = desk_of(S2)
        self.assertEqual(desk.take_ask(S4), [])
        self.assertEqual(all_of(desk), (S2, (S4,), False))
        self.assertEqual(desk.take_ask(S3), [])
        self.assertEqual((all_of(desk), len(desk)), ((S2, (S3, S4), False), 2))

    def test_ask_ahead_of_the_holder(self):
        desk = desk_of(S3)
        self.assertEqual(desk.take_ask(S2), [("back", S3)])
        self.assertEqual(all_of(desk), (S3, (S2,), True))
        # Asked back once, the holder is not asked again.
        self.assertEqual(desk.take_ask(S1), [])
        self.assertEqual((all_of(desk), len(desk)), ((S3, (S1, S2), True), 2))
        self.assertEqual(desk.take_ask(S4), [])
        self.assertEqual(all_of(desk), (S3, (S1, S2, S4), True))

    def test_stamps_are_compared_as_tuples(self):
        desk = desk_of((2, 1, 3))
        self.assertEqual(desk.take_ask((2, 1, 2)), [("back", (2, 1, 3))])
        self.assertEqual(desk_of((2, 1, 0)).take_ask((2, 0, 9)), [("back", (2, 1, 0))])
        self.assertEqual(desk_of((2, 1, 0)).take_ask((3, 0, 0)), [])
        self.assertEqual(desk_of((10, 1, 0)).take_ask((9, 5, 5)), [("back", (10, 1, 0))])

    def test_given(self):
        desk = desk_of(S3, (S1, S2, S4), True)
        self.assertEqual(all_of(desk), (S3, (S1, S2, S4), True))
        self.assertEqual(desk.take_given(S3), [("vote", S1)])
        self.assertEqual(all_of(desk), (S1, (S2, S3, S4), False))

    def test_given_of_the_first(self):
        desk = desk_of(S2)
        self.assertEqual(desk.take_given(S2), [("vote", S2)])
        self.assertEqual(all_of(desk), (S2, (), False))
        desk.take_ask(S3)
        self.assertEqual(desk.take_given(S2), [("vote", S2)])
        self.assertEqual(all_of(desk), (S2, (S3,), False))

    def test_given_of_another_one(self):
        desk = desk_of(S2, (S3,))
        for stamp in (S3, S1, (2, 0, 1)):
            self.assertEqual(desk.take_given(stamp), [])
            self.assertEqual(all_of(desk), (S2, (S3,), False))
        desk = Desk()
        self.assertEqual(desk.take_given(S1), [])
        self.assertEqual(all_of(desk), (None, (), False))

    def test_done_of_the_holder(self):
        desk = desk_of(S2, (S3, S4))
        self.assertEqual(desk.take_done(S2), [("vote", S3)])
        self.assertEqual(all_of(desk), (S3, (S4,), False))
        self.assertEqual(desk.take_done(S3), [("vote", S4)])
        self.assertEqual(desk.take_done(S4), [])
        self.assertEqual((all_of(desk), len(desk)), ((None, (), False), 0))

    def test_done_of_a_holder_that_was_asked_back(self):
        desk = desk_of(S3, (S2,), True)
        self.assertEqual(desk.take_done(S3), [("vote", S2)])
        self.assertEqual(all_of(desk), (S2, (), False))
        desk = desk_of(S3, (S2,), True)
        desk.take_done(S2)
        self.assertEqual(all_of(desk), (S3, (), True))
        self.assertEqual(desk.take_done(S3), [])
        self.assertEqual(all_of(desk), (None, (), False))

    def test_done_of_one_that_waits(self):
        desk = desk_of(S2, (S3, S4))
        self.assertEqual(desk.take_done(S4), [])
        self.assertEqual((all_of(desk), len(desk)), ((S2, (S3,), False), 1))

    def test_done_of_a_stamp_that_never_came(self):
        desk = desk_of(S2, (S3,))
        self.assertEqual(desk.take_done(S4), [])
        self.assertEqual(all_of(desk), (S2, (S3,), False))
        desk = Desk()
        self.assertEqual(desk.take_done(S4), [])
        self.assertEqual(all_of(desk), (None, (), False))
        # It is forgotten: the stamp waits as any other one where it comes later.
        self.assertEqual(desk.take_ask(S4), [("vote", S4)])

    def test_gone_of_the_holders_seat(self):
        desk = desk_of(S3, (S4, (3, 2, 0)))
        self.assertEqual(desk.take_gone(1), [("vote", (3, 2, 0))])
        self.assertEqual(all_of(desk), ((3, 2, 0), (), False))
        self.assertEqual(desk.take_gone(2), [])
        self.assertEqual((all_of(desk), len(desk)), ((None, (), False), 0))

    def test_gone_of_a_holder_that_was_asked_back(self):
        desk = desk_of(S3, (S2,), True)
        self.assertEqual(desk.take_gone(1), [("vote", S2)])
        self.assertEqual(all_of(desk), (S2, (), False))

    def test_gone_of_others(self):
        desk = desk_of(S2, (S3, S4, (3, 2, 0)))
        self.assertEqual(desk.take_gone(1), [])
        self.assertEqual(all_of(desk), (S2, ((3, 2, 0),), False))
        self.assertEqual(desk.take_gone(5), [])
        self.assertEqual((all_of(desk), len(desk)), ((S2, ((3, 2, 0),), False), 1))
        desk = desk_of(S3, (S1, S2), True)
        self.assertEqual(desk.take_gone(4), [])
        self.assertEqual(all_of(desk), (S3, (S2,), True))
        self.assertEqual(Desk().take_gone(0), [])

    def test_queue_is_a_tuple(self):
        desk = desk_of(S1, (S2, S3))
        for deed in (lambda: desk.take_done(S2), lambda: desk.take_given(S1), lambda: desk.take_gone(0)):
            deed()
            self.assertIs(type(desk.queue), tuple)

    def test_random_deeds(self):
        for seed in range(60):
            chance = random.Random(seed)
            desk, plain = Desk(), PlainDesk()
            stamps = [(count, seat, turn) for count in range(4) for seat in range(4) for turn in range(3)]
            chance.shuffle(stamps)
            there = []
            for _ in range(60):
                word = chance.choice(("ask", "ask", "given", "done", "gone"))
                if word == "ask":
                    if not stamps:
                        continue
                    handed = stamps.pop()
                    there.append(handed)
                elif word == "gone":
                    handed = chance.randrange(5)
                else:
                    choices = there + [desk.holder] * 10 if desk.holder else there + stamps
                    handed = chance.choice(choices or [S1])
                told = getattr(desk, "take_" + word)(handed)
                self.assertEqual(told, getattr(plain, "take_" + word)(handed))
                self.assertEqual(all_of(desk), (plain.holder, tuple(sorted(plain.waiting)), plain.called))
                self.assertEqual(len(desk), len(plain.waiting))
                self.assertTrue(desk.holder is not None or len(desk) == 0)


if __name__ == "__main__":
    unittest.main()
