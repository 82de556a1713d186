import unittest

from soleseat.base.errors import BadHall, Fallen, NeverAsks, NoFalls, NoLetter, NoSeat, NotIn, NotOut
from soleseat.base.hall import Hall
from soleseat.base.seats import Puppet, Seat
from things import ODD_THINGS, no_seats

A, B, C = ("aa",), ("bb", 1), ("cc", (2, (3,)))
GONE = ("gone",)


def seats_of(many):
    return [Seat(me) for me in range(many)]


def puppets(*plays, falls=False, askers=None):
    """A hall of puppets with these plays."""
    return Hall([Puppet(me, len(plays), play) for me, play in enumerate(plays)], falls=falls, askers=askers)


def seen(hall):
    """All that a hall tells."""
    many = range(hall.seats)
    return (hall.rows(), [hall.state_of(seat) for seat in many], hall.within(), hall.waiters(), hall.roads(),
            [hall.letters(a, b) for a in many for b in many], hall.under_way(), hall.still(), hall.runs(),
            [vars(hall.machine_of(seat)).copy() for seat in many], len(hall), str(hall))


class Refusing(unittest.TestCase):
    def refused(self, hall, call, error, **fields):
        """The call is refused so, and changes nothing of the hall."""
        ahead = seen(hall)
        with self.assertRaises(error) as caught:
            call()
        self.assertIs(type(caught.exception), error)
        for field, value in fields.items():
            self.assertIs(getattr(caught.exception, field), value)
        self.assertEqual(seen(hall), ahead)


class Making(unittest.TestCase):
    def bad(self, machines, at, why):
        with self.assertRaises(BadHall) as caught:
            Hall(machines)
        self.assertEqual((caught.exception.at, caught.exception.why), (at, why))

    def test_made(self):
        for many in (1, 2, 60):
            machines = seats_of(many)
            hall = Hall(machines)
            self.assertEqual((hall.seats, len(hall)), (many, many))
            self.assertEqual(str(hall), " ".join(["out"] * many))
            for me in range(many):
                self.assertIs(hall.machine_of(me), machines[me])
                self.assertIs(machines[me].sits, True)
            self.assertEqual((hall.rows(), hall.runs(), hall.within(), hall.waiters(), hall.roads(),
                              hall.under_way(), hall.still()), ([], [], [], [], [], [], True))

    def test_its_own_list(self):
        machines = seats_of(2)
        hall = Hall(machines)
        first = machines[0]
        machines[0] = Seat(0)
        machines.append(Seat(2))
        self.assertIs(hall.machine_of(0), first)
        self.assertEqual(len(hall), 2)

    def test_handed_in_by_name_alone(self):
        for more in ((True,), (True, 1)):
            with self.assertRaises(TypeError):
                Hall(seats_of(1), *more)
        hall = Hall(askers=1, falls=True, machines=seats_of(2))
        hall.fall(1)

    def test_many(self):
        for thing in ODD_THINGS + [0, 1, tuple(seats_of(2)), Seat(0), seats_of(61)]:
            if not isinstance(thing, list) or len(thing) in (0, 61):
                self.bad(thing, 0, "many")

    def test_machine(self):
        for thing in ODD_THINGS + [0, Seat, Puppet]:
            self.bad([thing], 0, "machine")
            self.bad(seats_of(2) + [thing, Seat(9)], 2, "machine")

    def test_me(self):
        for me in ODD_THINGS + [0, 1, 3, -1]:
            self.bad(seats_of(2) + [Seat(me)], 2, "me")
        self.bad([Seat(False)], 0, "me")
        self.bad([Seat(0), Seat(True)], 1, "me")
        self.bad([Seat(0.0)], 0, "me")
        self.bad([Seat(1), Seat(0)], 0, "me")

    def test_state(self):
        for state in ("in", "asking"):
            machines = seats_of(3)
            machines[1].state = state
            self.bad(machines, 1, "state")
            self.assertEqual([machine.sits for machine in machines], [False] * 3)

    def test_sits(self):
        machines = seats_of(3)
        Hall(machines[:1])
        fresh = seats_of(3)
        self.bad([machines[0], fresh[1], fresh[2]], 0, "sits")
        self.assertEqual([machine.sits for machine in fresh], [False] * 3)
        Hall([Seat(0), fresh[1]])
        self.bad([fresh[0], fresh[1], fresh[2]], 1, "sits")

    def test_what_is_refused_sits_nowhere(self):
        for wrong in (None, Seat(0), Seat(7)):
            machines = seats_of(3)
            self.bad(machines + [wrong], 3, "machine" if wrong is None else "me")
            self.assertEqual([machine.sits for machine in machines], [False] * 3)
            Hall(machines)

    def test_the_first_place_and_there_the_first_word(self):
        late = Seat(5)
        late.state = "in"
        late.sits = True
        self.bad([Seat(0), late, None], 1, "me")
        late.me = 1
        self.bad([Seat(0), late, None], 1, "state")
        late.state = "out"
        self.bad([Seat(0), late, None], 1, "sits")
        late.sits = False
        self.bad([Seat(0), late, None], 2, "machine")


class Deeds(Refusing):
    def test_seats_that_heed_nobody(self):
        hall = Hall(seats_of(2))
        self.assertEqual(hall.ask(1), [("ask", 1), ("in", 1)])
        self.assertEqual(hall.ask(0), [("ask", 0), ("in", 0)])
        self.assertEqual((hall.within(), hall.waiters(), str(hall)), ([0, 1], [], "in in"))
        self.assertEqual(hall.leave(1), [("out", 1)])
        self.assertEqual(hall.rows(), [("ask", 1), ("in", 1), ("ask", 0), ("in", 0), ("out", 1)])
        self.assertEqual(str(hall), "in out")

    def test_ask_and_wait(self):
        hall = puppets([(False, [(1, A), (0, B), (1, C)]), (False, []), (True, [(1, B)])], [(False, [(0, A)])])
        self.assertEqual(hall.ask(0), [("ask", 0), ("put", 0, 1, A), ("put", 0, 0, B), ("put", 0, 1, C)])
        self.assertEqual((hall.state_of(0), hall.within(), hall.waiters()), ("asking", [], [0]))
        self.assertEqual(str(hall), "asking out")
        self.assertEqual((hall.roads(), hall.letters(0, 1), hall.letters(1, 0)), ([(0, 0), (0, 1)], [A, C], []))
        self.assertEqual(hall.under_way(), [(0, 0, B), (0, 1, A), (0, 1, C)])
        self.assertEqual(hall.carry(0, 1), [("came", 0, 1, A), ("put", 1, 0, A)])
        self.assertEqual(hall.carry(1, 0), [("came", 1, 0, A)])
        self.assertEqual(hall.carry(0, 0), [("came", 0, 0, B), ("put", 0, 1, B), ("in", 0)])
        self.assertEqual((hall.within(), hall.waiters(), hall.still()), ([0], [], False))
        self.assertEqual(hall.carry(0, 1), [("came", 0, 1, C)])
        self.assertEqual(hall.leave(0), [("out", 0)])
        self.assertEqual((hall.under_way(), hall.still()), ([(0, 1, B)], False))
        self.assertEqual(hall.carry(0, 1), [("came", 0, 1, B)])
        self.assertEqual((hall.under_way(), hall.still()), ([], True))
        self.assertEqual(len(hall.rows()), 13)

    def test_ask_that_sends_and_goes_in(self):
        hall = puppets([(True, [(0, A)]), (False, [(0, B)])])
        self.assertEqual(hall.ask(0), [("ask", 0), ("put", 0, 0, A), ("in", 0)])
        self.assertEqual(hall.carry(0, 0), [("came", 0, 0, A), ("put", 0, 0, B)])
        self.assertEqual(hall.leave(0), [("out", 0)])

    def test_leave_that_sends(self):
        hall = puppets([(True, []), (False, [(1, A), (1, A)])], [])
        hall.ask(0)
        self.assertEqual(hall.leave(0), [("out", 0), ("put", 0, 1, A), ("put", 0, 1, A)])
        self.assertEqual(hall.letters(0, 1), [A, A])

    def test_each_machine_by_its_own_calls(self):
        heard = []

        class Listener(Seat):
            def ask(self):
                heard.append(("ask",))
                self.state = "asking"
                return [(1, A)]

            def hear(self, sender, letter):
                heard.append(("hear", self.me, sender, letter))
                self.state = "in" if self.state == "asking" else self.state
                return []

            def gone(self, seat):
                heard.append(("gone", self.me, seat))
                self.state = "in" if self.state == "asking" else self.state
                return [(2, C)]

        hall = Hall([Listener(0), Seat(1), Listener(2)], falls=True)
        hall.ask(0)
        hall.fall(1)
        self.assertEqual(hall.carry(1, 0), [("gone", 1, 0), ("put", 0, 2, C), ("in", 0)])
        self.assertEqual(hall.carry(0, 2), [("came", 0, 2, C)])
        self.assertEqual(hall.carry(1, 2), [("gone", 1, 2), ("put", 2, 2, C)])
        self.assertEqual(heard, [("ask",), ("gone", 0, 1), ("hear", 2, 0, C), ("gone", 2, 1)])

    def test_fall(self):
        hall = puppets([(False, [(1, A), (2, A)])], [(True, [(2, B), (0, B)]), (True, [(0, C)])], [], falls=True)
        hall.ask(0)
        hall.ask(1)
        self.assertEqual(hall.within(), [1])
        self.assertEqual(hall.fall(1), [("fell", 1)])
        self.assertEqual((hall.within(), hall.waiters(), str(hall)), ([], [0], "asking fallen out"))
        self.assertEqual(hall.state_of(1), "fallen")
        self.assertEqual(hall.under_way(), [(0, 2, A), (1, 0, B), (1, 0, GONE), (1, 2, B), (1, 2, GONE)])
        self.assertEqual(hall.carry(1, 2), [("came", 1, 2, B)])
        self.assertEqual(hall.carry(1, 2), [("gone", 1, 2)])
        self.assertEqual(hall.fall(0), [("fell", 0)])
        self.assertEqual((hall.waiters(), hall.under_way()), ([], [(0, 2, A), (0, 2, GONE)]))
        self.assertFalse(hall.still())
        hall.carry(0, 2)
        hall.carry(0, 2)
        self.assertTrue(hall.still())
        self.assertEqual(hall.fall(2), [("fell", 2)])
        self.assertEqual((str(hall), hall.still()), ("fallen fallen fallen", True))
        self.assertEqual(len(hall), 3)

    def test_an_end_mark_lets_in(self):
        hall = puppets([(False, [])], [], falls=True)
        hall.ask(0)
        hall.fall(1)
        self.assertFalse(hall.still())
        self.assertEqual(hall.carry(1, 0), [("gone", 1, 0), ("in", 0)])

    def test_puts_to_the_fallen(self):
        hall = puppets([(False, [(1, A), (0, B), (1, C)])], [], falls=True)
        hall.fall(1)
        self.assertEqual(hall.ask(0), [("ask", 0), ("put", 0, 1, A), ("put", 0, 0, B), ("put", 0, 1, C)])
        self.assertEqual(hall.under_way(), [(0, 0, B), (1, 0, GONE)])

    def test_who_fell_while_in_keeps_nobody_busy(self):
        hall = Hall(seats_of(1), falls=True)
        hall.ask(0)
        self.assertFalse(hall.still())
        hall.fall(0)
        self.assertTrue(hall.still())
        self.assertEqual(hall.calm(), [])

    def test_what_is_told_is_the_askers(self):
        hall = puppets([(False, [(1, A), (1, B)])], [(False, [(0, A)])])
        for told in (hall.ask(0), hall.ask(1), hall.run([("carry", 0, 1)])):
            told.clear()
        other = puppets([(False, [(1, A), (1, B)])], [(False, [(0, A)])])
        other.ask(0)
        other.ask(1)
        other.run([("carry", 0, 1)])
        for told in (hall.rows(), hall.within(), hall.waiters(), hall.letters(0, 1), hall.roads(), hall.under_way(),
                     hall.runs()):
            told.append(7)
            del told[0]
        for one, two in zip(seen(hall), seen(other)):
            self.assertEqual(one, two)
        old = hall.rows()
        hall.carry(1, 0)
        self.assertEqual(old, other.rows())


class Refusals(Refusing):
    def hall(self):
        """Seat 0 is out, 1 asks, 2 is in, 3 has fallen, 4 never asks."""
        hall = puppets([(False, [(1, A)])], [(False, [(0, A)])], [(True, [])], [], [], falls=True, askers=4)
        hall.run([("ask", 1), ("ask", 2), ("fall", 3)])
        return hall

    def test_no_seat_of_anything(self):
        hall = self.hall()
        for thing in no_seats(5):
            for call in (lambda: hall.ask(thing), lambda: hall.leave(thing), lambda: hall.carry(thing, 0),
                         lambda: hall.carry(0, thing), lambda: hall.fall(thing), lambda: hall.state_of(thing),
                         lambda: hall.machine_of(thing), lambda: hall.letters(thing, 0),
                         lambda: hall.letters(0, thing)):
                self.refused(hall, call, NoSeat, seat=thing)
        for call in (lambda: hall.carry(-1, -2), lambda: hall.letters(-1, -2)):
            self.refused(hall, call, NoSeat, seat=-1)

    def test_ask(self):
        hall = self.hall()
        self.refused(hall, lambda: hall.ask(3), Fallen, seat=3)
        self.refused(hall, lambda: hall.ask(4), NeverAsks, seat=4)
        self.refused(hall, lambda: hall.ask(1), NotOut, seat=1)
        self.refused(hall, lambda: hall.ask(2), NotOut, seat=2)
        hall.fall(4)
        self.refused(hall, lambda: hall.ask(4), Fallen, seat=4)
        hall.ask(0)

    def test_never_asks_ahead_of_not_out(self):
        class Eager(Seat):
            def hear(self, sender, letter):
                self.state = "asking"
                return []

        hall = Hall([Puppet(0, 2, [(True, [(1, A)])]), Eager(1)], askers=1)
        hall.ask(0)
        hall.carry(0, 1)
        self.refused(hall, lambda: hall.ask(1), NeverAsks, seat=1)

    def test_askers(self):
        for askers, may in ((None, 3), (0, 0), (1, 1), (2, 2), (3, 3), (9, 3)):
            hall = Hall(seats_of(3), askers=askers)
            for seat in range(3):
                if seat < may:
                    self.assertEqual(hall.ask(seat), [("ask", seat), ("in", seat)])
                else:
                    self.refused(hall, lambda: hall.ask(seat), NeverAsks, seat=seat)

    def test_what_the_machine_refuses(self):
        class Shy(Seat):
            def ask(self):
                raise Shyness()

        class Shyness(Exception):
            pass

        hall = Hall([Shy(0), Seat(1)], falls=True)
        self.refused(hall, lambda: hall.ask(0), Shyness)
        hall.fall(0)
        self.refused(hall, lambda: hall.ask(0), Fallen, seat=0)
        hall = Hall([Shy(0)], askers=0)
        self.refused(hall, lambda: hall.ask(0), NeverAsks, seat=0)

    def test_leave(self):
        hall = self.hall()
        self.refused(hall, lambda: hall.leave(3), Fallen, seat=3)
        self.refused(hall, lambda: hall.leave(0), NotIn, seat=0)
        self.refused(hall, lambda: hall.leave(1), NotIn, seat=1)
        hall.fall(2)
        self.refused(hall, lambda: hall.leave(2), Fallen, seat=2)

    def test_carry(self):
        hall = self.hall()
        self.refused(hall, lambda: hall.carry(0, 1), NoLetter, sender=0, to=1)
        self.refused(hall, lambda: hall.carry(0, 0), NoLetter, sender=0, to=0)
        self.refused(hall, lambda: hall.carry(0, 3), NoLetter, sender=0, to=3)
        hall.carry(3, 0)
        self.refused(hall, lambda: hall.carry(3, 0), NoLetter, sender=3, to=0)

    def test_fall(self):
        hall = self.hall()
        self.refused(hall, lambda: hall.fall(3), Fallen, seat=3)
        hall = Hall(seats_of(2))
        for seat in (0, 1):
            self.refused(hall, lambda: hall.fall(seat), NoFalls)
        self.refused(hall, lambda: hall.fall(2), NoSeat, seat=2)


if __name__ == "__main__":
    unittest.main()
