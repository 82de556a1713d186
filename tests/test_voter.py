import unittest

from soleseat.base.seats import Seat
from soleseat.votes.desk import Desk
from soleseat.votes.errors import Barred
from soleseat.votes.voter import Voter

SETS = [(0, 1), (1, 2), (0, 2), (3, 4), (2, 3, 4)]


def all_of(voter):
    return (voter.state, voter.count, voter.stamp, voter.hand, voter.known,
            voter.desk.holder, voter.desk.queue, voter.desk.called)


def asking(me=1, first=4, count=6):
    """A voter that asks the seats 2, 3 and 4 with the stamp (7, 1, 0)."""
    voter = Voter(me, SETS, first=first, count=count)
    voter.ask()
    return voter


def within(me=1, first=4, count=6):
    voter = asking(me, first, count)
    for seat in SETS[first]:
        voter.hear(seat, ("vote", 7, 0, 0))
    assert voter.state == "in"
    return voter


class Voters(unittest.TestCase):
    def test_new(self):
        voter = Voter(2, SETS)
        self.assertIsInstance(voter, Seat)
        self.assertEqual((voter.me, voter.sits), (2, False))
        self.assertEqual(all_of(voter), ("out", 0, None, (), (), None, (), False))
        self.assertIs(type(voter.desk), Desk)
        self.assertEqual(Voter(2, SETS, count=9).count, 9)
        with self.assertRaises(TypeError):
            Voter(2, SETS, 3)

    def test_first_left_out(self):
        self.assertEqual([Voter(me, SETS).free_set() for me in range(12)], [me % 5 for me in range(12)])
        self.assertEqual([Voter(me, SETS, first=None).free_set() for me in range(6)], [0, 1, 2, 3, 4, 0])
        self.assertEqual(Voter(7, SETS).ask(), [(0, ("ask", 1, 0)), (2, ("ask", 1, 0))])

    def test_first_told(self):
        for first in range(5):
            for me in (0, 3):
                self.assertEqual(Voter(me, SETS, first=first).free_set(), first)
        self.assertEqual(Voter(3, SETS, first=0).ask(), [(0, ("ask", 1, 0)), (1, ("ask", 1, 0))])

    def test_free_set_goes_round(self):
        voter = Voter(0, SETS, first=1)
        for seat, wanted, known in ((1, 2, (1,)), (0, 3, (0, 1)), (4, None, (0, 1, 4))):
            voter.gone(seat)
            self.assertEqual((voter.free_set(), voter.known), (wanted, known))
        voter = Voter(0, SETS, first=3)
        voter.gone(3)
        self.assertEqual(voter.free_set(), 0)
        voter.gone(0)
        self.assertEqual((voter.free_set(), voter.known), (1, (0, 3)))

    def test_ask(self):
        voter = Voter(1, SETS, first=4, count=6)
        self.assertEqual(voter.ask(), [(2, ("ask", 7, 0)), (3, ("ask", 7, 0)), (4, ("ask", 7, 0))])
        self.assertEqual(all_of(voter), ("asking", 7, (7, 1, 0), (), (), None, (), False))

    def test_ask_of_its_own_set(self):
        voter = Voter(1, SETS, first=0)
        self.assertEqual(voter.ask(), [(0, ("ask", 1, 0)), (1, ("ask", 1, 0))])
        self.assertEqual(voter.hear(1, ("ask", 1, 0)), [(1, ("vote", 1, 0, 1))])
        self.assertEqual(voter.desk.holder, (1, 1, 0))
        self.assertEqual(voter.hear(1, ("vote", 1, 0, 1)), [])
        self.assertEqual((voter.hand, voter.state), ((1,), "asking"))
        voter.hear(0, ("vote", 1, 0, 4))
        self.assertEqual((voter.hand, voter.state, voter.count), ((0, 1), "in", 4))
        self.assertEqual(voter.leave(), [(0, ("done", 1, 0)), (1, ("done", 1, 0))])
        self.assertEqual(voter.hear(1, ("done", 1, 0)), [])
        self.assertIsNone(voter.desk.holder)

    def test_ask_of_a_free_set_that_is_not_the_first(self):
        voter = Voter(0, SETS, first=0)
        voter.gone(1)
        self.assertEqual(voter.ask(), [(0, ("ask", 1, 0)), (2, ("ask", 1, 0))])

    def test_barred(self):
        voter = Voter(0, [(1,), (1, 2)], count=3)
        voter.gone(1)
        for _ in range(2):
            with self.assertRaises(Barred) as caught:
                voter.ask()
            self.assertEqual(caught.exception.seat, 0)
            self.assertEqual(all_of(voter), ("out", 3, None, (), (1,), None, (), False))
        with self.assertRaises(Barred):
            Voter(0, []).ask()
        self.assertIsNone(Voter(0, []).free_set())

    def test_ask_heard(self):
        voter = Voter(1, SETS, count=6)
        self.assertEqual(voter.hear(3, ("ask", 4, 2)), [(3, ("vote", 4, 2, 6))])
        self.assertEqual(all_of(voter), ("out", 6, None, (), (), (4, 3, 2), (), False))
        # The count is raised ahead of what is sent.
        self.assertEqual(voter.hear(0, ("ask", 9, 1)), [])
        self.assertEqual((voter.count, voter.desk.queue), (9, ((9, 0, 1),)))
        self.assertEqual(voter.hear(2, ("ask", 3, 0)), [(3, ("back", 4, 2))])
        self.assertEqual((voter.count, voter.desk.called), (9, True))
        voter = Voter(1, SETS, count=6)
        self.assertEqual(voter.hear(3, ("ask", 8, 0)), [(3, ("vote", 8, 0, 8))])

    def test_ask_heard_while_asking_and_in(self):
        for make in (asking, within):
            voter = make()
            ahead = voter.hand
            self.assertEqual(voter.hear(0, ("ask", 8, 0)), [(0, ("vote", 8, 0, 8))])
            self.assertEqual((voter.stamp, voter.hand, voter.count), ((7, 1, 0), ahead, 8))

    def test_votes_heard(self):
        voter = asking()
        self.assertEqual(voter.hear(4, ("vote", 7, 0, 5)), [])
        self.assertEqual(all_of(voter), ("asking", 7, (7, 1, 0), (4,), (), None, (), False))
        self.assertEqual(voter.hear(2, ("vote", 7, 0, 12)), [])
        self.assertEqual(all_of(voter), ("asking", 12, (7, 1, 0), (2, 4), (), None, (), False))
        self.assertEqual(voter.hear(3, ("vote", 7, 0, 3)), [])
        self.assertEqual(all_of(voter), ("in", 12, (7, 1, 0), (2, 3, 4), (), None, (), False))

    def test_a_vote_heard_twice(self):
        voter = asking()
        voter.hear(4, ("vote", 7, 0, 5))
        voter.hear(4, ("vote", 7, 0, 5))
        self.assertEqual((voter.hand, voter.state), ((4,), "asking"))

    def test_a_vote_heard_while_in(self):
        voter = within()
        voter.hear(0, ("vote", 7, 0, 8))
        self.assertEqual((voter.hand, voter.state, voter.count), ((2, 3, 4), "in", 8))

    def test_votes_of_another_stamp(self):
        for letter in (("vote", 6, 0, 9), ("vote", 8, 0, 9), ("vote", 7, 1, 9)):
            voter = asking()
            self.assertEqual(voter.hear(4, letter), [])
            self.assertEqual(all_of(voter), ("asking", 9, (7, 1, 0), (), (), None, (), False))
        voter = within()
        self.assertEqual(voter.hear(4, ("vote", 6, 0, 9)), [])
        self.assertEqual((voter.hand, voter.count), ((2, 3, 4), 9))
        voter = Voter(1, SETS)
        self.assertEqual(voter.hear(4, ("vote", 0, 0, 9)), [])
        self.assertEqual(all_of(voter), ("out", 9, None, (), (), None, (), False))

    def test_back_heard(self):
        voter = asking()
        voter.hear(4, ("vote", 7, 0, 0))
        voter.hear(2, ("vote", 7, 0, 0))
        self.assertEqual(voter.hear(4, ("back", 7, 0)), [(4, ("given", 7, 0))])
        self.assertEqual((voter.hand, voter.state, voter.stamp), ((2,), "asking", (7, 1, 0)))
        self.assertEqual(voter.hear(4, ("back", 7, 0)), [])
        voter.hear(4, ("vote", 7, 0, 0))
        self.assertEqual(voter.hand, (2, 4))

    def test_back_of_another_stamp_or_not_in_hand(self):
        voter = asking()
        voter.hear(4, ("vote", 7, 0, 0))
        for sender, letter in ((4, ("back", 6, 0)), (4, ("back", 7, 1)), (3, ("back", 7, 0)), (0, ("back", 7, 0))):
            self.assertEqual(voter.hear(sender, letter), [])
            self.assertEqual((voter.hand, voter.state), ((4,), "asking"))

    def test_back_while_in_or_out(self):
        voter = within()
        self.assertEqual(voter.hear(4, ("back", 7, 0)), [])
        self.assertEqual((voter.hand, voter.state), ((2, 3, 4), "in"))
        voter.leave()
        self.assertEqual(voter.hear(4, ("back", 7, 0)), [])
        self.assertEqual(voter.state, "out")

    def test_no_count_in_back_given_and_done(self):
        for word in ("back", "given", "done"):
            voter = Voter(1, SETS, count=2)
            self.assertEqual(voter.hear(3, (word, 9, 0)), [])
            self.assertEqual(voter.count, 2)

    def test_given_and_done_heard(self):
        voter = Voter(1, SETS, count=6)
        voter.hear(3, ("ask", 4, 2))
        voter.hear(0, ("ask", 4, 1))
        self.assertEqual(voter.hear(3, ("given", 4, 2)), [(0, ("vote", 4, 1, 6))])
        self.assertEqual((voter.desk.holder, voter.desk.queue), ((4, 0, 1), ((4, 3, 2),)))
        self.assertEqual(voter.hear(0, ("done", 4, 1)), [(3, ("vote", 4, 2, 6))])
        self.assertEqual(voter.hear(3, ("done", 4, 2)), [])
        self.assertEqual(all_of(voter), ("out", 6, None, (), (), None, (), False))

    def test_whatever_order(self):
        voter = Voter(1, SETS)
        self.assertEqual(voter.hear(3, ("done", 4, 2)), [])
        self.assertEqual(voter.hear(3, ("given", 4, 2)), [])
        self.assertEqual(voter.hear(3, ("ask", 4, 2)), [(3, ("vote", 4, 2, 4))])
        self.assertEqual(voter.hear(0, ("done", 3, 0)), [])
        self.assertEqual(voter.hear(0, ("ask", 3, 0)), [(3, ("back", 4, 2))])
        # Of the same seat, with other stamps.
        self.assertEqual(voter.hear(3, ("done", 4, 1)), [])
        self.assertEqual(voter.hear(3, ("given", 3, 2)), [])
        self.assertEqual(voter.desk.holder, (4, 3, 2))
        self.assertEqual(voter.hear(3, ("given", 4, 2)), [(0, ("vote", 3, 0, 4))])

    def test_leave(self):
        voter = within()
        self.assertEqual(voter.leave(), [(2, ("done", 7, 0)), (3, ("done", 7, 0)), (4, ("done", 7, 0))])
        self.assertEqual(all_of(voter), ("out", 7, None, (), (), None, (), False))
        self.assertEqual(voter.ask(), [(2, ("ask", 8, 0)), (3, ("ask", 8, 0)), (4, ("ask", 8, 0))])

    def test_leave_tells_the_known_nothing(self):
        voter = within()
        self.assertEqual(voter.gone(3), [])
        self.assertEqual(all_of(voter), ("in", 7, (7, 1, 0), (2, 3, 4), (3,), None, (), False))
        self.assertEqual(voter.leave(), [(2, ("done", 7, 0)), (4, ("done", 7, 0))])

    def test_gone_frees_the_desk(self):
        for make in (lambda: Voter(1, SETS, count=7), asking, within):
            voter = make()
            voter.hear(0, ("ask", 3, 0))
            voter.hear(2, ("ask", 4, 0))
            self.assertEqual(voter.gone(0), [(2, ("vote", 4, 0, 7))])
            self.assertEqual((voter.known, voter.desk.holder), ((0,), (4, 2, 0)))

    def test_gone_of_a_seat_of_its_set(self):
        voter = asking()
        voter.hear(4, ("vote", 7, 0, 9))
        self.assertEqual(voter.gone(3), [(2, ("done", 7, 0)), (4, ("done", 7, 0)), (0, ("ask", 7, 1)), (1, ("ask", 7, 1))])
        self.assertEqual(all_of(voter), ("asking", 9, (7, 1, 1), (), (3,), None, (), False))

    def test_gone_what_the_desk_gives_goes_first(self):
        voter = asking()
        voter.hear(3, ("ask", 3, 0))
        voter.hear(0, ("ask", 4, 0))
        self.assertEqual(voter.gone(3), [(0, ("vote", 4, 0, 7)), (2, ("done", 7, 0)), (4, ("done", 7, 0)),
                                         (0, ("ask", 7, 1)), (1, ("ask", 7, 1))])

    def test_gone_of_a_seat_of_another_set(self):
        voter = asking()
        voter.hear(4, ("vote", 7, 0, 0))
        self.assertEqual(voter.gone(0), [])
        self.assertEqual(all_of(voter), ("asking", 7, (7, 1, 0), (4,), (0,), None, (), False))

    def test_gone_while_out(self):
        voter = Voter(1, SETS)
        self.assertEqual(voter.gone(2), [])
        self.assertEqual(voter.gone(0), [])
        self.assertEqual((voter.state, voter.known, voter.free_set()), ("out", (0, 2), 3))

    def test_votes_of_the_turn_ahead(self):
        voter = asking()
        voter.gone(3)
        self.assertEqual(voter.hear(4, ("vote", 7, 0, 0)), [])
        self.assertEqual(voter.hear(1, ("vote", 7, 0, 0)), [])
        self.assertEqual(voter.hand, ())
        self.assertEqual(voter.hear(2, ("back", 7, 0)), [])
        voter.hear(1, ("vote", 7, 1, 0))
        voter.hear(0, ("vote", 7, 1, 0))
        self.assertEqual((voter.state, voter.hand), ("in", (0, 1)))
        self.assertEqual(voter.leave(), [(0, ("done", 7, 1)), (1, ("done", 7, 1))])

    def test_several_turns(self):
        voter = Voter(5, SETS, first=0, count=2)
        voter.ask()
        self.assertEqual(voter.gone(0), [(1, ("done", 3, 0)), (1, ("ask", 3, 1)), (2, ("ask", 3, 1))])
        voter.hear(2, ("ask", 50, 0))
        self.assertEqual(voter.gone(1), [(2, ("done", 3, 1)), (3, ("ask", 3, 2)), (4, ("ask", 3, 2))])
        self.assertEqual((voter.stamp, voter.count, voter.free_set()), ((3, 5, 2), 50, 3))
        voter.hear(4, ("vote", 3, 2, 0))
        # Without a free set it is out, unserved.
        self.assertEqual(voter.gone(3), [(4, ("done", 3, 2))])
        self.assertEqual(all_of(voter), ("out", 50, None, (), (0, 1, 3), (50, 2, 0), (), False))
        for _ in range(2):
            with self.assertRaises(Barred) as caught:
                voter.ask()
            self.assertEqual(caught.exception.seat, 5)
        self.assertEqual(voter.gone(2), [])
        with self.assertRaises(Barred):
            voter.ask()
        self.assertEqual(voter.count, 50)

    def test_turning_to_a_set_with_itself(self):
        voter = Voter(0, SETS, first=1)
        voter.ask()
        self.assertEqual(voter.gone(1), [(2, ("done", 1, 0)), (0, ("ask", 1, 1)), (2, ("ask", 1, 1))])
        self.assertEqual(voter.hear(0, ("ask", 1, 1)), [(0, ("vote", 1, 1, 1))])

    def test_a_new_ask_behind_turns(self):
        voter = asking()
        voter.gone(3)
        voter.hear(0, ("vote", 7, 1, 9))
        voter.hear(1, ("vote", 7, 1, 9))
        voter.leave()
        self.assertEqual(voter.ask(), [(0, ("ask", 10, 0)), (1, ("ask", 10, 0))])
        self.assertEqual(voter.stamp, (10, 1, 0))

    def test_the_list_of_sets_changed_behind(self):
        sets = [(0, 1), (1, 2)]
        voter = Voter(0, sets)
        sets[0] = (2,)
        sets.append((0,))
        self.assertEqual(voter.ask(), [(0, ("ask", 1, 0)), (1, ("ask", 1, 0))])
        voter.gone(0)
        self.assertEqual((voter.free_set(), sets), (1, [(2,), (1, 2), (0,)]))

    def test_kinds(self):
        voter = asking()
        voter.gone(0)
        voter.hear(4, ("vote", 7, 0, 0))
        self.assertEqual([type(told) for told in (voter.hand, voter.known, voter.stamp)], [tuple] * 3)

    def test_sharing_nothing(self):
        one, other = Voter(0, SETS), Voter(1, SETS)
        one.ask()
        one.gone(4)
        one.hear(2, ("ask", 4, 0))
        self.assertEqual(all_of(other), ("out", 0, None, (), (), None, (), False))
        self.assertIsNot(one.desk, other.desk)


if __name__ == "__main__":
    unittest.main()
