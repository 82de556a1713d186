import unittest

from soleseat.base.seats import Seat
from soleseat.calls.callers import Caller
from soleseat.nests.porters import Member, Porter
from soleseat.stamps.stamper import Stamper
from soleseat.trees.turners import Turner
from soleseat.trees.twigs import Twig
from soleseat.votes.errors import Barred
from soleseat.votes.voter import Voter

PLEASE, YOURS, DONE = ("please",), ("yours",), ("done",)


class Inner(Seat):
    """A machine that does as it is told: by deed what it sends, and the state that it is in behind it."""

    def __init__(self, **told):
        super().__init__(1)
        self.told = told
        self.heard = []

    def do(self, deed, state=None):
        self.heard.append(deed)
        sends, then = self.told.get(deed if isinstance(deed, str) else deed[1][0], ([], state))
        self.state = then if then is not None else self.state
        return sends

    def ask(self):
        return self.do("ask", "asking")

    def leave(self):
        return self.do("leave", "out")

    def hear(self, sender, letter):
        return self.do((sender, letter))


def state_of(machine):
    return machine.state, machine.inner.state


class Members(unittest.TestCase):
    """A leaf's seat 4, part 1 of a branch of the seats 7, 4 and 2."""

    def test_new(self):
        inner = Inner()
        member = Member(4, inner, [7, 4, 2], 9)
        self.assertIsInstance(member, Seat)
        self.assertEqual((member.me, member.state, member.sits, member.porter), (4, "out", False, 9))
        self.assertIs(member.inner, inner)
        self.assertIsNone(Member(4, inner, [7, 4, 2], None).porter)
        self.assertEqual(inner.heard, [])

    def test_with_a_porter(self):
        inner = Inner(ask=([(0, ("a", 1)), (2, ("b",))], "asking"), no=([(1, ("c",))], None),
                      go=([(2, ("d",)), (0, ("e", ()))], "in"), then=([(0, ("f",))], None),
                      leave=([(2, ("g",)), (1, ("h",))], "out"))
        member = Member(4, inner, [7, 4, 2], 9)
        self.assertEqual(member.ask(), [(7, ("a", 1)), (2, ("b",))])
        self.assertEqual(state_of(member), ("asking", "asking"))
        self.assertEqual(member.hear(2, ("no", 5)), [(4, ("c",))])
        self.assertEqual(member.hear(7, ("go",)), [(2, ("d",)), (7, ("e", ())), (9, PLEASE)])
        self.assertEqual(state_of(member), ("asking", "in"))
        # It is in in its branch already, and asks the porter once alone.
        self.assertEqual(member.hear(4, ("then",)), [(7, ("f",))])
        self.assertEqual(state_of(member), ("asking", "in"))
        self.assertEqual(member.hear(9, YOURS), [])
        self.assertEqual(state_of(member), ("in", "in"))
        self.assertEqual(member.hear(2, ("then",)), [(7, ("f",))])
        self.assertEqual(member.leave(), [(9, DONE), (2, ("g",)), (4, ("h",))])
        self.assertEqual(state_of(member), ("out", "out"))
        self.assertEqual(inner.heard, ["ask", (2, ("no", 5)), (0, ("go",)), (1, ("then",)), (2, ("then",)), "leave"])

    def test_in_the_whole(self):
        inner = Inner(ask=([(0, ("a",))], "asking"), go=([(2, ("d",))], "in"), leave=([(2, ("g",))], "out"))
        member = Member(4, inner, [7, 4, 2], None)
        self.assertEqual(member.ask(), [(7, ("a",))])
        self.assertEqual(state_of(member), ("asking", "asking"))
        self.assertEqual(member.hear(2, ("no",)), [])
        self.assertEqual(state_of(member), ("asking", "asking"))
        self.assertEqual(member.hear(2, ("go",)), [(2, ("d",))])
        self.assertEqual(state_of(member), ("in", "in"))
        self.assertEqual(member.leave(), [(2, ("g",))])
        self.assertEqual(state_of(member), ("out", "out"))

    def test_in_at_once(self):
        inner = Inner(ask=([(0, ("a",))], "in"))
        member = Member(4, inner, [7, 4, 2], 9)
        self.assertEqual(member.ask(), [(7, ("a",)), (9, PLEASE)])
        self.assertEqual(state_of(member), ("asking", "in"))
        member = Member(4, Inner(ask=([(0, ("a",))], "in")), [7, 4, 2], None)
        self.assertEqual(member.ask(), [(7, ("a",))])
        self.assertEqual(state_of(member), ("in", "in"))

    def test_out_it_lets_inner_hear(self):
        inner = Inner(no=([(0, ("yes",))], None))
        member = Member(4, inner, [7, 4, 2], 9)
        self.assertEqual(member.hear(7, ("no",)), [(7, ("yes",))])
        self.assertEqual(state_of(member), ("out", "out"))
        self.assertEqual(member.gone(7), [])

    def test_what_inner_refuses_is_refused_ahead_of_any_change(self):
        member = Member(4, Voter(1, []), [7, 4, 2], 9)
        self.assertRaises(Barred, member.ask)
        self.assertEqual(state_of(member), ("out", "out"))

    def test_mates_handed_in(self):
        mates = [7, 4, 2]
        member = Member(4, Inner(ask=([(0, ("a",))], "asking")), mates, 9)
        mates[0] = 5
        self.assertEqual(member.ask(), [(7, ("a",))])

    def test_each_manner(self):
        mates = [5, 4]
        for porter in (None, 9):
            please = [] if porter is None else [(9, PLEASE)]
            done = [] if porter is None else [(9, DONE)]
            state = "in" if porter is None else "asking"

            def member_of(inner):
                return Member(4, inner, mates, porter)

            stamps = member_of(Stamper(1, 2))
            self.assertEqual(stamps.ask(), [(5, ("ask", 1))])
            self.assertEqual(stamps.hear(5, ("yes", 3)), please)
            self.assertEqual((stamps.state, stamps.inner.count), (state, 3))
            tree = member_of(Twig(1, 0))
            self.assertEqual(tree.ask(), [(5, ("wish",))])
            self.assertEqual(tree.hear(5, ("key",)), please)
            self.assertEqual(tree.hear(5, ("wish",)), [])
            turning = member_of(Turner(1, 0))
            self.assertEqual(turning.ask(), [(5, ("wish", 1))])
            self.assertEqual(turning.hear(5, ("key",)), please)
            self.assertEqual(turning.hear(5, ("wish", 0)), [])
            votes = member_of(Voter(1, [(0, 1)], first=0))
            self.assertEqual(votes.ask(), [(5, ("ask", 1, 0)), (4, ("ask", 1, 0))])
            self.assertEqual(votes.hear(4, ("ask", 1, 0)), [(4, ("vote", 1, 0, 1))])
            self.assertEqual(votes.hear(5, ("vote", 1, 0, 2)), [])
            self.assertEqual(votes.hear(4, ("vote", 1, 0, 1)), please)
            self.assertEqual(votes.inner.hand, (0, 1))
            calls = member_of(Caller(1, 2))
            self.assertEqual(calls.ask(), [(5, ("ask", 1))])
            self.assertEqual(calls.hear(5, ("key", 0, ((0, 0), (1, 0)), ())), please)
            ends = {stamps: [], tree: [(5, ("key",))], turning: [(5, ("key",))],
                    votes: [(5, ("done", 1, 0)), (4, ("done", 1, 0))], calls: []}
            for member, sends in ends.items():
                self.assertEqual(member.state, state)
                if porter is not None:
                    self.assertEqual(member.hear(9, YOURS), [])
                self.assertEqual(member.state, "in")
                self.assertEqual(member.leave(), done + sends)
                self.assertEqual(member.state, "out")


class Porters(unittest.TestCase):
    """A porter at seat 9, part 1 of the seats 7, 9 and 2, of a branch in which sit 4 and 5."""

    def test_new(self):
        inner = Inner()
        porter = Porter(9, inner, [7, 9, 2], 11)
        self.assertIsInstance(porter, Seat)
        self.assertEqual((porter.me, porter.state, porter.sits, porter.porter, porter.serves),
                         (9, "out", False, 11, None))
        self.assertIs(porter.inner, inner)
        self.assertIsNone(Porter(9, inner, [7, 9, 2], None).porter)

    def test_with_a_porter_above(self):
        inner = Inner(ask=([(0, ("a",)), (2, ("b", 3))], "asking"), go=([(2, ("d",))], "in"),
                      leave=([(0, ("g",)), (1, ("h",))], "out"), no=([(1, ("c",))], None))
        porter = Porter(9, inner, [7, 9, 2], 11)
        self.assertEqual(porter.hear(4, PLEASE), [(7, ("a",)), (2, ("b", 3))])
        self.assertEqual((porter.serves, state_of(porter)), (4, ("out", "asking")))
        self.assertEqual(porter.hear(9, ("no",)), [(9, ("c",))])
        self.assertEqual(porter.hear(2, ("go",)), [(2, ("d",)), (11, PLEASE)])
        self.assertEqual((porter.serves, state_of(porter)), (4, ("out", "in")))
        self.assertEqual(porter.hear(2, ("no",)), [(9, ("c",))])
        self.assertEqual(porter.hear(11, YOURS), [(4, YOURS)])
        self.assertEqual((porter.serves, state_of(porter)), (4, ("out", "in")))
        self.assertEqual(porter.hear(4, DONE), [(11, DONE), (7, ("g",)), (9, ("h",))])
        self.assertEqual((porter.serves, state_of(porter)), (None, ("out", "out")))
        self.assertEqual(inner.heard, ["ask", (1, ("no",)), (2, ("go",)), (2, ("no",)), "leave"])
        # And again, for another one.
        self.assertEqual(porter.hear(5, PLEASE), [(7, ("a",)), (2, ("b", 3))])
        self.assertEqual(porter.serves, 5)

    def test_in_the_whole(self):
        inner = Inner(ask=([(0, ("a",))], "asking"), go=([(2, ("d",))], "in"), leave=([(0, ("g",))], "out"))
        porter = Porter(9, inner, [7, 9, 2], None)
        self.assertEqual(porter.hear(4, PLEASE), [(7, ("a",))])
        self.assertEqual(porter.hear(7, ("go",)), [(2, ("d",)), (4, YOURS)])
        self.assertEqual((porter.serves, state_of(porter)), (4, ("out", "in")))
        self.assertEqual(porter.hear(4, DONE), [(7, ("g",))])
        self.assertEqual((porter.serves, state_of(porter)), (None, ("out", "out")))

    def test_one_that_waits(self):
        for above, done in ((None, []), (11, [(11, DONE)])):
            inner = Inner(ask=([(0, ("a",))], "asking"), go=([], "in"), leave=([(2, ("g",))], "out"))
            porter = Porter(9, inner, [7, 9, 2], above)
            porter.hear(4, PLEASE)
            porter.hear(7, ("go",))
            self.assertEqual(porter.hear(5, PLEASE), [])
            self.assertEqual(porter.serves, 4)
            if above is not None:
                self.assertEqual(porter.hear(11, YOURS), [(4, YOURS)])
            self.assertEqual(porter.hear(4, DONE), done + [(2, ("g",)), (7, ("a",))])
            self.assertEqual((porter.serves, state_of(porter)), (5, ("out", "asking")))
            self.assertEqual(inner.heard, ["ask", (0, ("go",)), "leave", "ask"])
            porter.hear(7, ("go",))
            self.assertEqual(porter.hear(5, DONE), done + [(2, ("g",))])
            self.assertEqual((porter.serves, state_of(porter)), (None, ("out", "out")))

    def test_in_at_once(self):
        for above, there in ((None, (4, YOURS)), (11, (11, PLEASE))):
            inner = Inner(ask=([(0, ("a",))], "in"), leave=([(2, ("g",))], "out"))
            porter = Porter(9, inner, [7, 9, 2], above)
            self.assertEqual(porter.hear(4, PLEASE), [(7, ("a",)), there])
            self.assertEqual(porter.hear(5, PLEASE), [])
            done = [] if above is None else [(11, DONE)]
            other = (5, YOURS) if above is None else there
            self.assertEqual(porter.hear(4, DONE), done + [(2, ("g",)), (7, ("a",)), other])
            self.assertEqual((porter.serves, state_of(porter)), (5, ("out", "in")))

    def test_mates_handed_in(self):
        mates = [7, 9, 2]
        porter = Porter(9, Inner(ask=([(0, ("a",))], "asking")), mates, 11)
        mates[0] = 5
        self.assertEqual(porter.hear(4, PLEASE), [(7, ("a",))])

    def test_always_out(self):
        porter = Porter(9, Inner(), [7, 9, 2], None)
        for deed in (porter.ask, porter.leave, lambda: porter.gone(4)):
            self.assertEqual(deed(), [])
            self.assertEqual((porter.serves, state_of(porter)), (None, ("out", "out")))

    def test_letters_of_done_by_length(self):
        """Voters have a letter done of their own."""
        porter = Porter(9, Voter(1, [(0, 1)], first=0), [7, 9], 11)
        self.assertEqual(porter.hear(4, PLEASE), [(7, ("ask", 1, 0)), (9, ("ask", 1, 0))])
        self.assertEqual(porter.hear(7, ("ask", 1, 0)), [(7, ("vote", 1, 0, 1))])
        self.assertEqual(porter.hear(9, ("ask", 1, 0)), [])
        self.assertEqual(porter.hear(7, ("done", 1, 0)), [(9, ("vote", 1, 0, 1))])
        self.assertEqual(porter.serves, 4)
        self.assertEqual(porter.hear(9, ("vote", 1, 0, 1)), [])
        self.assertEqual(porter.hear(7, ("vote", 1, 0, 1)), [(11, PLEASE)])

    def test_each_manner(self):
        for inner, letters, sent in (
                (Stamper(1, 2), [("yes", 1)], []), (Twig(1, 0), [("key",)], []), (Turner(1, 0), [("key",)], []),
                (Caller(1, 2), [("key", 0, ((0, 0), (1, 0)), ())], []),
                (Voter(1, [(0,)], first=0), [("vote", 1, 0, 1)], [(7, ("done", 1, 0))])):
            porter = Porter(9, inner, [7, 9], None)
            self.assertEqual([to for to, _ in porter.hear(4, PLEASE)], [7])
            for letter in letters:
                self.assertEqual(porter.hear(7, letter), [(4, YOURS)])
            self.assertEqual(porter.hear(4, DONE), sent)


if __name__ == "__main__":
    unittest.main()
