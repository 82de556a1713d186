import unittest

from soleseat.base.errors import BadPlay
from soleseat.base.seats import Puppet, Seat
from things import ODD_THINGS, no_seats

A, B = ("aa",), ("bb", 1)


class Seats(unittest.TestCase):
    def test_made(self):
        seat = Seat(7)
        self.assertEqual((seat.me, seat.state, seat.sits), (7, "out", False))
        self.assertIs(seat.sits, False)

    def test_deeds(self):
        seat = Seat(0)
        self.assertEqual((seat.ask(), seat.state), ([], "in"))
        self.assertEqual((seat.hear(1, A), seat.state), ([], "in"))
        self.assertEqual((seat.gone(1), seat.state), ([], "in"))
        self.assertEqual((seat.leave(), seat.state), ([], "out"))
        self.assertEqual((seat.hear(2, A), seat.state), ([], "out"))

    def test_lists_are_the_askers(self):
        seat = Seat(0)
        for call in (seat.ask, seat.leave, lambda: seat.hear(1, A), lambda: seat.gone(1)):
            call().append((0, A))
            self.assertEqual(call(), [])


class Puppets(unittest.TestCase):
    def test_made(self):
        puppet = Puppet(3, 5, [(True, []), (False, [(4, A)])])
        self.assertIsInstance(puppet, Seat)
        self.assertEqual((puppet.me, puppet.state, puppet.sits, puppet.unplayed()), (3, "out", False, 2))

    def test_ask(self):
        puppet = Puppet(0, 2, [(True, [(1, A), (0, B), (1, A)])])
        self.assertEqual(puppet.ask(), [(1, A), (0, B), (1, A)])
        self.assertEqual((puppet.state, puppet.unplayed()), ("in", 0))
        puppet = Puppet(0, 2, [(False, [(1, A)])])
        self.assertEqual(puppet.ask(), [(1, A)])
        self.assertEqual(puppet.state, "asking")

    def test_hear_and_gone(self):
        for call in (lambda puppet: puppet.hear(1, B), lambda puppet: puppet.gone(1)):
            puppet = Puppet(0, 2, [(True, [(1, A)]), (False, []), (False, [(0, B)]), (True, [(1, B)]), (False, [])])
            self.assertEqual((call(puppet), puppet.state), ([(1, A)], "out"))
            self.assertEqual((puppet.ask(), puppet.state), ([], "asking"))
            self.assertEqual((call(puppet), puppet.state), ([(0, B)], "asking"))
            self.assertEqual((call(puppet), puppet.state), ([(1, B)], "in"))
            self.assertEqual((call(puppet), puppet.state, puppet.unplayed()), ([], "in", 0))

    def test_leave(self):
        for goes in (True, False):
            puppet = Puppet(0, 2, [(True, []), (goes, [(1, A)])])
            puppet.ask()
            self.assertEqual((puppet.leave(), puppet.state), ([(1, A)], "out"))

    def test_used_up(self):
        puppet = Puppet(0, 2, [(False, [])])
        puppet.ask()
        self.assertEqual((puppet.hear(1, A), puppet.state, puppet.unplayed()), ([], "in", 0))
        self.assertEqual((puppet.leave(), puppet.state, puppet.unplayed()), ([], "out", 0))
        self.assertEqual((puppet.ask(), puppet.state), ([], "in"))
        self.assertEqual((puppet.gone(1), puppet.state), ([], "in"))
        self.assertEqual(Puppet(0, 1, []).unplayed(), 0)

    def test_plays_as_they_are_when_it_is_made(self):
        sends = [(1, A)]
        plays = [(False, sends), (True, [])]
        puppet = Puppet(0, 2, plays)
        self.assertEqual(plays, [(False, [(1, A)]), (True, [])])
        sends.append((0, B))
        plays[1] = (False, [(1, B)])
        plays.append((False, []))
        self.assertEqual(puppet.unplayed(), 2)
        self.assertEqual(puppet.ask(), [(1, A)])
        self.assertEqual((puppet.hear(1, A), puppet.state), ([], "in"))
        self.assertEqual(sends, [(1, A), (0, B)])

    def test_lists_told_are_the_askers(self):
        sends = [(1, A)]
        puppet = Puppet(0, 2, [(False, sends), (False, sends), (False, sends), (False, sends)])
        for call in (puppet.ask, lambda: puppet.hear(1, A), lambda: puppet.gone(1), puppet.leave):
            told = call()
            self.assertEqual(told, [(1, A)])
            told.append((0, B))
        for call in (puppet.ask, lambda: puppet.hear(1, A), lambda: puppet.gone(1), puppet.leave):
            told = call()
            self.assertEqual(told, [])
            told.append((0, B))
        self.assertEqual(sends, [(1, A)])

    def test_one_of_many(self):
        plays = [(False, [(1, A)])]
        one, two = Puppet(0, 2, plays), Puppet(1, 2, plays)
        one.ask()
        self.assertEqual((two.state, two.unplayed()), ("out", 1))


class BadPlays(unittest.TestCase):
    def bad(self, plays, at, seats=3):
        with self.assertRaises(BadPlay) as caught:
            Puppet(0, seats, plays)
        self.assertEqual(caught.exception.at, at)

    def test_no_list(self):
        for thing in ODD_THINGS + [0, 1, ((True, []),)]:
            if not isinstance(thing, list):
                self.bad(thing, 0)

    def test_no_play(self):
        for thing in ODD_THINGS + [0, (True,), (True, [], []), ([], True), [True, []]]:
            self.bad([thing], 0)
            self.bad([(True, []), (False, [(0, A)]), thing, thing], 2)

    def test_no_truth(self):
        for thing in ODD_THINGS + [0, 1]:
            if not isinstance(thing, bool):
                self.bad([(True, []), (thing, [])], 1)

    def test_no_list_of_sends(self):
        for thing in ODD_THINGS + [0, ((0, A),), (0, A)]:
            if thing.__class__ is not list or len(thing) > 0:
                self.bad([(True, []), (False, thing)], 1)

    def test_no_send(self):
        for thing in ODD_THINGS + [0, (0,), (0, A, A), [0, A], (A, 0)]:
            self.bad([(True, [(0, A), thing])], 0)

    def test_no_seat(self):
        for thing in no_seats(3):
            self.bad([(True, []), (True, [(2, A), (thing, A)])], 1)
        Puppet(0, 3, [(True, [(0, A), (1, A), (2, A)])])
        self.bad([(True, [(1, A)])], 0, seats=1)

    def test_no_letter(self):
        for thing in ODD_THINGS + [("gone",), ("key", -1), ("key", ((((),),),))]:
            self.bad([(True, []), (True, []), (True, [(0, thing)])], 2)

    def test_too_many(self):
        self.assertEqual(Puppet(0, 1, [(True, [])] * 200).unplayed(), 200)
        self.bad([(True, [])] * 201, 200)
        self.bad([(True, [])] * 500, 200)
        self.bad([(True, [])] * 199 + [0] + [(True, [])] * 10, 199)

    def test_first_of_several(self):
        self.bad([(True, []), (0, []), None], 1)


if __name__ == "__main__":
    unittest.main()
