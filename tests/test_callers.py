import unittest

from soleseat.base.errors import NoSeat
from soleseat.base.seats import Seat
from soleseat.calls.callers import FIRST, Caller, callers
from things import no_seats


def served(*numbers):
    """What a letter tells of all members, each served so often."""
    return tuple(enumerate(numbers))


def all_of(caller):
    return (caller.state, caller.round, caller.bears(), caller.roster(), caller.numbers(), caller.awaits())


class Making(unittest.TestCase):
    def test_new(self):
        caller = Caller(2, 4)
        self.assertIsInstance(caller, Seat)
        self.assertEqual((caller.me, caller.sits, FIRST), (2, False, 0))
        self.assertEqual(all_of(caller), ("out", 0, None, [0, 1, 2, 3], [0, 0, 0, 0], []))
        self.assertEqual(Caller(0, 4).bears(), (0, served(0, 0, 0, 0), ()))
        self.assertEqual(Caller(2, 4, first=2).bears(), (0, served(0, 0, 0, 0), ()))
        self.assertIsNone(Caller(0, 4, first=2).bears())
        with self.assertRaises(TypeError):
            Caller(0, 4, 0)

    def test_callers(self):
        for many in (1, 2, 60):
            machines = callers(many)
            self.assertEqual([type(machine) for machine in machines], [Caller] * many)
            self.assertEqual([machine.me for machine in machines], list(range(many)))
            self.assertEqual([machine.me for machine in machines if machine.bears()], [0])
        self.assertEqual([machine.me for machine in callers(3, first=2) if machine.bears()], [2])
        self.assertEqual(callers(3)[1].roster(), [0, 1, 2])
        with self.assertRaises(TypeError):
            callers(3, 1)

    def test_no_first(self):
        for thing in no_seats(3):
            with self.assertRaises(NoSeat) as caught:
                callers(3, first=thing)
            self.assertIs(caught.exception.seat, thing)


class Asking(unittest.TestCase):
    def test_ask(self):
        caller = Caller(1, 4)
        self.assertEqual(caller.ask(), [(0, ("ask", 1)), (2, ("ask", 1)), (3, ("ask", 1))])
        self.assertEqual(all_of(caller), ("asking", 0, None, [0, 1, 2, 3], [0, 1, 0, 0], []))

    def test_ask_of_the_roster_alone(self):
        caller = Caller(1, 5)
        caller.gone(3)
        self.assertEqual(caller.ask(), [(0, ("ask", 1)), (2, ("ask", 1)), (4, ("ask", 1))])

    def test_ask_with_the_key(self):
        caller = Caller(1, 3, first=1)
        self.assertEqual(caller.ask(), [])
        self.assertEqual(all_of(caller), ("in", 0, (0, served(0, 0, 0), ()), [0, 1, 2], [0, 1, 0], []))
        self.assertEqual(caller.leave(), [])
        self.assertEqual(all_of(caller), ("out", 0, (0, served(0, 1, 0), ()), [0, 1, 2], [0, 1, 0], []))
        caller.ask()
        caller.leave()
        self.assertEqual(caller.bears(), (0, served(0, 2, 0), ()))

    def test_one_seat_alone(self):
        caller = Caller(0, 1)
        for number in range(3):
            self.assertEqual(caller.ask(), [])
            self.assertEqual(caller.state, "in")
            self.assertEqual(caller.leave(), [])
            self.assertEqual(caller.bears(), (0, ((0, number + 1),), ()))

    def test_ask_heard_without_the_key(self):
        caller = Caller(1, 3)
        self.assertEqual(caller.hear(2, ("ask", 4)), [])
        self.assertEqual(caller.hear(0, ("ask", 2)), [])
        self.assertEqual(all_of(caller), ("out", 0, None, [0, 1, 2], [2, 0, 4], []))
        caller.ask()
        self.assertEqual(caller.hear(0, ("ask", 3)), [])
        self.assertEqual((caller.numbers(), caller.state), ([3, 1, 4], "asking"))

    def test_the_greatest_number_heard(self):
        caller = Caller(1, 3)
        caller.hear(2, ("ask", 4))
        caller.hear(2, ("ask", 4))
        self.assertEqual(caller.numbers(), [0, 0, 4])
        caller.hear(2, ("ask", 3))
        self.assertEqual(caller.numbers(), [0, 0, 4])

    def test_ask_heard_with_the_key(self):
        caller = Caller(1, 3, first=1)
        self.assertEqual(caller.hear(2, ("ask", 1)), [(2, ("key", 0, served(0, 0, 0), ()))])
        self.assertEqual(all_of(caller), ("out", 0, None, [0, 1, 2], [0, 0, 1], []))

    def test_ask_heard_with_the_key_but_served(self):
        caller = Caller(1, 3)
        caller.hear(0, ("key", 0, served(0, 0, 4), ()))
        caller.leave()
        self.assertEqual(caller.hear(2, ("ask", 4)), [])
        self.assertEqual((caller.bears(), caller.numbers()), ((0, served(0, 0, 4), ()), [0, 0, 4]))
        self.assertEqual(caller.hear(2, ("ask", 5)), [(2, ("key", 0, served(0, 0, 4), ()))])

    def test_ask_heard_while_in(self):
        caller = Caller(1, 3, first=1)
        caller.ask()
        self.assertEqual(caller.hear(2, ("ask", 1)), [])
        self.assertEqual(all_of(caller), ("in", 0, (0, served(0, 0, 0), ()), [0, 1, 2], [0, 1, 1], []))
        self.assertEqual(caller.leave(), [(2, ("key", 0, served(0, 1, 0), ()))])
        self.assertEqual((caller.state, caller.bears()), ("out", None))

    def test_a_number_heard_twice(self):
        caller = Caller(0, 2)
        caller.ask()
        caller.leave()
        self.assertEqual(caller.hear(1, ("ask", 1)), [(1, ("key", 0, served(1, 0), ()))])
        self.assertEqual(caller.hear(0, ("key", 0, served(1, 1), ())), [])
        self.assertEqual(caller.leave(), [])
        self.assertEqual(caller.hear(1, ("ask", 1)), [])
        self.assertIsNotNone(caller.bears())


class HandingOn(unittest.TestCase):
    def with_key(self, me, numbers, line, seats=6, gone=()):
        """A caller that is in with a key, behind asks of such numbers."""
        caller = Caller(me, seats)
        caller.ask()
        for seat in gone:
            caller.gone(seat)
        for seat, number in numbers.items():
            caller.hear(seat, ("ask", number))
        caller.hear(0, ("key", 3, served(*[0] * seats), line))
        self.assertEqual(caller.state, "in")
        return caller

    def test_from_behind_itself_round(self):
        caller = self.with_key(2, {5: 1, 0: 1, 3: 1, 1: 1}, ())
        self.assertEqual(caller.leave(), [(3, ("key", 3, served(0, 0, 1, 0, 0, 0), (5, 0, 1)))])

    def test_behind_the_end_of_the_line(self):
        caller = self.with_key(2, {5: 1, 0: 1, 3: 1, 1: 1}, (1, 5))
        self.assertEqual(caller.leave(), [(1, ("key", 3, served(0, 0, 1, 0, 0, 0), (5, 3, 0)))])

    def test_who_is_out_of_the_roster(self):
        caller = self.with_key(2, {5: 1, 0: 1, 3: 1}, (1, 5, 4, 0), gone=(5, 1))
        self.assertEqual(caller.leave(), [(4, ("key", 3, served(0, 0, 1, 0, 0, 0), (0, 3)))])
        caller = self.with_key(2, {5: 1, 3: 1}, (5, 3), gone=(5, 3))
        self.assertEqual(caller.leave(), [])
        self.assertEqual(caller.bears(), (3, served(0, 0, 1, 0, 0, 0), ()))

    def test_who_is_no_member(self):
        caller = Caller(2, 4)
        caller.ask()
        for seat in (3, 1, 0):
            caller.hear(seat, ("ask", 1))
        caller.hear(0, ("key", 3, ((0, 0), (1, 0), (2, 0)), ()))
        self.assertEqual(caller.leave(), [(0, ("key", 3, ((0, 0), (1, 0), (2, 1)), (1,)))])

    def test_who_was_served(self):
        caller = Caller(2, 4)
        caller.ask()
        for seat, number in ((3, 4), (1, 4), (0, 4)):
            caller.hear(seat, ("ask", number))
        caller.hear(0, ("key", 3, served(5, 3, 0, 4), ()))
        self.assertEqual(caller.leave(), [(1, ("key", 3, served(5, 3, 1, 4), ()))])

    def test_itself_first(self):
        caller = self.with_key(2, {5: 1}, (2, 4))
        self.assertEqual(caller.leave(), [])
        self.assertEqual((caller.bears(), caller.state), ((3, served(0, 0, 1, 0, 0, 0), (4, 5)), "in"))

    def test_nobody(self):
        caller = self.with_key(2, {}, ())
        self.assertEqual(caller.leave(), [])
        self.assertEqual((caller.bears(), caller.state), ((3, served(0, 0, 1, 0, 0, 0), ()), "out"))

    def test_hand_on_at_an_ask(self):
        caller = self.with_key(2, {}, ())
        caller.leave()
        self.assertEqual(caller.hear(4, ("ask", 2)), [(4, ("key", 3, served(0, 0, 1, 0, 0, 0), ()))])
        self.assertEqual(caller.hear(5, ("ask", 1)), [])

    def test_served_becomes_its_own_number(self):
        caller = Caller(1, 2)
        caller.ask()
        caller.hear(0, ("key", 0, served(0, 0), ()))
        caller.leave()
        self.assertEqual(caller.bears(), (0, served(0, 1), ()))
        caller.ask()
        caller.leave()
        self.assertEqual(caller.bears(), (0, served(0, 2), ()))
        self.assertEqual(caller.hear(0, ("ask", 1)), [(0, ("key", 0, served(0, 2), ()))])
        caller.ask()
        caller.hear(0, ("key", 0, served(1, 0), ()))
        caller.leave()
        self.assertEqual(caller.bears(), (0, served(1, 3), ()))


class Keys(unittest.TestCase):
    def test_key_heard(self):
        caller = Caller(1, 3)
        caller.ask()
        self.assertEqual(caller.hear(0, ("key", 0, served(2, 0, 1), (2,))), [])
        self.assertEqual(all_of(caller), ("in", 0, (0, served(2, 0, 1), (2,)), [0, 1, 2], [0, 1, 0], []))

    def test_a_key_of_a_greater_round(self):
        caller = Caller(1, 3)
        caller.ask()
        caller.hear(0, ("key", 4, served(2, 0, 1), ()))
        self.assertEqual((caller.state, caller.round, caller.bears()), ("in", 0, (4, served(2, 0, 1), ())))
        # The round comes behind its key: the key stays as it is.
        self.assertEqual(caller.hear(0, ("round", 4, (0, 1))), [(0, ("pledge", 4, 1, 0, 1))])
        self.assertEqual((caller.round, caller.bears()), (4, (4, served(2, 0, 1), ())))

    def test_a_key_of_its_own_round(self):
        caller = Caller(1, 3)
        caller.ask()
        caller.hear(0, ("round", 4, (0, 1)))
        caller.hear(0, ("key", 4, ((0, 2), (1, 0)), ()))
        self.assertEqual((caller.state, caller.round, caller.bears()), ("in", 4, (4, ((0, 2), (1, 0)), ())))

    def test_a_void_key(self):
        caller = Caller(1, 3)
        caller.ask()
        caller.hear(0, ("round", 4, (0, 1)))
        ahead = all_of(caller)
        self.assertEqual(caller.hear(2, ("key", 3, served(0, 0, 0), (0,))), [])
        self.assertEqual(all_of(caller), ahead)
        self.assertEqual(caller.hear(0, ("ask", 1)), [])
        # The next pledge tells of no key, too.
        self.assertEqual(caller.hear(0, ("round", 5, (0, 1))), [(0, ("pledge", 5, 1, 1, 0))])


class Rounds(unittest.TestCase):
    def test_an_end_mark_where_it_is_not_the_least(self):
        caller = Caller(1, 3, first=1)
        self.assertEqual(caller.gone(2), [])
        self.assertEqual(all_of(caller), ("out", 0, (0, served(0, 0, 0), ()), [0, 1], [0, 0, 0], []))

    def test_the_least_begins_a_round(self):
        caller = Caller(0, 4, first=3)
        self.assertEqual(caller.gone(2), [(1, ("round", 1, (0, 1, 3))), (3, ("round", 1, (0, 1, 3)))])
        self.assertEqual(all_of(caller), ("out", 1, None, [0, 1, 3], [0, 0, 0, 0], [1, 3]))

    def test_who_comes_to_be_the_least(self):
        caller = Caller(2, 5, first=4)
        self.assertEqual(caller.gone(1), [])
        self.assertEqual(caller.awaits(), [])
        self.assertEqual(caller.gone(0), [(3, ("round", 1, (2, 3, 4))), (4, ("round", 1, (2, 3, 4)))])
        self.assertEqual((caller.round, caller.awaits()), (1, [3, 4]))

    def test_a_round_behind_those_heard(self):
        caller = Caller(1, 3, first=2)
        caller.hear(0, ("round", 6, (0, 1, 2)))
        self.assertEqual(caller.gone(0), [(2, ("round", 7, (1, 2)))])
        self.assertEqual(caller.round, 7)

    def test_anew_at_each_further_end_mark(self):
        caller = Caller(0, 4, first=3)
        caller.gone(2)
        caller.hear(1, ("pledge", 1, 0, 0, 0))
        self.assertEqual(caller.awaits(), [3])
        self.assertEqual(caller.gone(3), [(1, ("round", 2, (0, 1)))])
        self.assertEqual((caller.round, caller.awaits(), caller.bears()), (2, [1], None))
        # A pledge for the round ahead counts no more.
        self.assertEqual(caller.hear(1, ("pledge", 1, 9, 0, 0)), [])
        self.assertEqual((caller.awaits(), caller.numbers()), ([1], [0, 0, 0, 0]))
        caller.hear(1, ("pledge", 2, 0, 0, 0))
        self.assertEqual((caller.awaits(), caller.bears()), ([], (2, ((0, 0), (1, 0)), ())))

    def test_alone(self):
        caller = Caller(1, 2, first=0)
        caller.ask()
        self.assertEqual(caller.gone(0), [])
        self.assertEqual(all_of(caller), ("in", 1, (1, ((1, 0),), ()), [1], [0, 1], []))
        caller.leave()
        self.assertEqual(caller.bears(), (1, ((1, 1),), ()))
        self.assertEqual(caller.ask(), [])

    def test_alone_and_out(self):
        caller = Caller(1, 2, first=0)
        self.assertEqual(caller.gone(0), [])
        self.assertEqual(all_of(caller), ("out", 1, (1, ((1, 0),), ()), [1], [0, 0], []))

    def test_alone_with_the_key(self):
        caller = Caller(0, 2)
        caller.ask()
        self.assertEqual(caller.gone(1), [])
        self.assertEqual(all_of(caller), ("in", 1, (1, ((0, 0),), ()), [0], [1, 0], []))

    def test_round_heard(self):
        caller = Caller(2, 4)
        self.assertEqual(caller.hear(0, ("round", 3, (0, 2))), [(0, ("pledge", 3, 0, 0, 0))])
        self.assertEqual((caller.round, caller.roster(), caller.awaits()), (3, [0, 1, 2, 3], []))
        caller.ask()
        self.assertEqual(caller.hear(1, ("round", 4, (1, 2))), [(1, ("pledge", 4, 1, 1, 0))])
        caller.hear(0, ("key", 4, served(0, 0, 0, 0), ()))
        self.assertEqual(caller.hear(1, ("round", 5, (1, 2))), [(1, ("pledge", 5, 1, 0, 1))])
        caller.leave()
        self.assertEqual(caller.hear(1, ("round", 6, (1, 2))), [(1, ("pledge", 6, 1, 0, 1))])

    def test_another_round_heard(self):
        caller = Caller(2, 3, first=2)
        caller.hear(0, ("round", 3, (0, 1, 2)))
        ahead = all_of(caller)
        for number in (3, 2, 1, 0):
            self.assertEqual(caller.hear(1, ("round", number, (2,))), [])
            self.assertEqual(all_of(caller), ahead)


class Pledges(unittest.TestCase):
    def test_a_key_lives_on(self):
        caller = Caller(3, 5)
        caller.ask()
        caller.hear(0, ("key", 1, served(1, 2, 3, 0, 5), (4, 1, 0)))
        self.assertEqual(caller.hear(0, ("round", 2, (0, 3, 4))), [(0, ("pledge", 2, 1, 0, 1))])
        self.assertEqual(caller.bears(), (2, ((0, 1), (3, 0), (4, 5)), (4, 0)))
        self.assertEqual(caller.state, "in")

    def test_a_key_of_who_is_out_lives_on(self):
        caller = Caller(3, 4, first=3)
        self.assertEqual(caller.hear(0, ("round", 2, (0, 3))), [(0, ("pledge", 2, 0, 0, 1))])
        self.assertEqual((caller.bears(), caller.state), ((2, ((0, 0), (3, 0)), ()), "out"))

    def test_a_key_of_the_same_or_a_greater_round_stays(self):
        for number in (2, 3):
            caller = Caller(3, 5)
            caller.ask()
            caller.hear(0, ("key", number, served(1, 2, 3, 0, 5), (4, 1, 0)))
            caller.hear(0, ("round", 2, (0, 3)))
            self.assertEqual(caller.bears(), (number, served(1, 2, 3, 0, 5), (4, 1, 0)))

    def test_a_key_of_who_begins_lives_on(self):
        caller = Caller(0, 3)
        self.assertEqual(caller.gone(1), [(2, ("round", 1, (0, 2)))])
        self.assertEqual((caller.bears(), caller.awaits()), ((1, ((0, 0), (2, 0)), ()), [2]))
        # Its own pledge told of the key: no other one is made.
        self.assertEqual(caller.hear(2, ("pledge", 1, 1, 1, 0)), [])
        self.assertEqual((caller.bears(), caller.numbers()), ((1, ((0, 0), (2, 0)), ()), [0, 0, 1]))

    def test_a_key_is_made(self):
        caller = Caller(0, 4, first=2)
        caller.hear(3, ("ask", 2))
        caller.gone(2)
        self.assertEqual(caller.hear(3, ("pledge", 1, 5, 1, 0)), [])
        self.assertEqual((caller.numbers(), caller.awaits()), ([0, 0, 0, 5], [1]))
        sends = caller.hear(1, ("pledge", 1, 7, 1, 0))
        self.assertEqual(sends, [(1, ("key", 1, ((0, 0), (1, 6), (3, 4)), (3,)))])
        self.assertEqual(all_of(caller), ("out", 1, None, [0, 1, 3], [0, 7, 0, 5], []))

    def test_made_and_kept(self):
        caller = Caller(0, 3, first=2)
        caller.gone(2)
        self.assertEqual(caller.hear(1, ("pledge", 1, 7, 0, 0)), [])
        self.assertEqual(all_of(caller), ("out", 1, (1, ((0, 0), (1, 7)), ()), [0, 1], [0, 7, 0], []))

    def test_made_by_one_that_asks(self):
        caller = Caller(0, 3, first=2)
        caller.ask()
        caller.gone(2)
        # The others come first in the line, itself last.
        self.assertEqual(caller.hear(1, ("pledge", 1, 7, 1, 0)), [(1, ("key", 1, ((0, 0), (1, 6)), (0,)))])
        self.assertEqual((caller.state, caller.bears()), ("asking", None))
        caller = Caller(0, 3, first=2)
        caller.ask()
        caller.gone(2)
        self.assertEqual(caller.hear(1, ("pledge", 1, 7, 0, 0)), [])
        self.assertEqual((caller.state, caller.bears()), ("in", (1, ((0, 0), (1, 7)), ())))
        self.assertEqual(caller.leave(), [])
        self.assertEqual(caller.bears(), (1, ((0, 1), (1, 7)), ()))

    def test_asks_behind_the_pledge_count(self):
        caller = Caller(0, 4, first=2)
        caller.gone(2)
        caller.hear(1, ("pledge", 1, 7, 0, 0))
        caller.hear(1, ("ask", 8))
        self.assertEqual(caller.hear(3, ("pledge", 1, 0, 0, 0)),
                         [(1, ("key", 1, ((0, 0), (1, 7), (3, 0)), ()))])

    def test_a_pledge_of_a_lesser_number(self):
        caller = Caller(0, 3, first=2)
        caller.hear(1, ("ask", 9))
        caller.gone(2)
        caller.hear(1, ("pledge", 1, 8, 0, 0))
        self.assertEqual(caller.numbers(), [0, 9, 0])

    def test_none_is_made_where_a_pledge_tells_of_a_key(self):
        for last in ((1, ("pledge", 1, 3, 0, 1)), (3, ("pledge", 1, 3, 0, 1))):
            caller = Caller(0, 4, first=2)
            caller.ask()
            caller.gone(2)
            other = 4 - last[0]
            self.assertEqual(caller.hear(*last), [])
            self.assertEqual(caller.hear(other, ("pledge", 1, 2, 1, 0)), [])
            self.assertEqual((caller.bears(), caller.state, caller.awaits()), (None, "asking", []))
            # But their numbers count.
            self.assertEqual(sorted(caller.numbers()), [0, 1, 2, 3])

    def test_pledges_that_do_not_count(self):
        caller = Caller(0, 3, first=2)
        self.assertEqual(caller.hear(1, ("pledge", 0, 5, 0, 0)), [])
        self.assertEqual(all_of(caller), ("out", 0, None, [0, 1, 2], [0, 0, 0], []))
        caller.gone(2)
        for number in (0, 2, 3):
            self.assertEqual(caller.hear(1, ("pledge", number, 5, 1, 0)), [])
            self.assertEqual(all_of(caller), ("out", 1, None, [0, 1], [0, 0, 0], [1]))

    def test_the_round_that_it_began_last(self):
        # A round that it only heard of is none that it began.
        caller = Caller(0, 3, first=2)
        caller.gone(2)
        caller.hear(1, ("round", 5, (0, 1)))
        self.assertEqual((caller.round, caller.awaits()), (5, [1]))
        self.assertEqual(caller.hear(1, ("pledge", 5, 1, 1, 0)), [])
        self.assertEqual(caller.awaits(), [1])
        self.assertEqual(caller.hear(1, ("pledge", 1, 1, 1, 0)), [(1, ("key", 1, ((0, 0), (1, 0)), ()))])


class Own(unittest.TestCase):
    def test_lists_and_tuples_of_their_own(self):
        caller = Caller(0, 4)
        caller.ask()
        caller.hear(3, ("ask", 2))
        caller.gone(2)
        for told, wanted in ((caller.roster, [0, 1, 3]), (caller.numbers, [1, 0, 0, 2]), (caller.awaits, [1, 3])):
            there = told()
            self.assertEqual(there, wanted)
            there.append(2)
            there[0] = 3
            self.assertEqual(told(), wanted)
        bears = caller.bears()
        self.assertEqual((bears, [type(part) for part in bears]), ((1, ((0, 0), (1, 0), (3, 0)), ()), [int, tuple, tuple]))
        caller.leave()
        self.assertEqual(bears, (1, ((0, 0), (1, 0), (3, 0)), ()))

    def test_sharing_nothing(self):
        machines = callers(3)
        machines[0].ask()
        machines[0].gone(2)
        self.assertEqual(all_of(machines[1]), ("out", 0, None, [0, 1, 2], [0, 0, 0], []))


if __name__ == "__main__":
    unittest.main()
