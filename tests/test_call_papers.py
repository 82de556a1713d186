import unittest

from driving import fallen_of, machines_of
from soleseat.calls.callers import Caller
from soleseat.calls.halls import call_hall
from soleseat.calls.papers import coming, where_key

END_MARK = ("gone",)


def where(hall):
    return where_key(machines_of(hall), hall.under_way(), fallen=fallen_of(hall))


def coming_of(hall):
    return coming(machines_of(hall), hall.under_way(), fallen=fallen_of(hall))


class WhereKey(unittest.TestCase):
    def test_has(self):
        hall = call_hall(3, first=2)
        self.assertEqual(where(hall), ("has", 2))
        self.assertEqual(where_key(machines_of(hall), hall.under_way()), ("has", 2))
        hall.ask(2)
        self.assertEqual(where(hall), ("has", 2))

    def test_way(self):
        hall = call_hall(3, first=2, falls=True)
        hall.run([("ask", 1), ("carry", 1, 2)])
        self.assertEqual(where(hall), ("way", 2, 1))
        # It comes also where its sender fell.
        hall.fall(2)
        self.assertEqual(where(hall), ("way", 2, 1))
        hall.carry(2, 1)
        self.assertEqual(where(hall), ("has", 1))

    def test_marks_and_pledges(self):
        hall = call_hall(5, first=4, falls=True)
        hall.run([("fall", 4), ("fall", 2)])
        self.assertEqual(where(hall), ("marks", 0, (2, 4)))
        hall.carry(4, 0)
        self.assertEqual(where(hall), ("marks", 0, (2,)))
        hall.carry(2, 0)
        self.assertEqual(where(hall), ("pledges", 0, (1, 3)))
        hall.run([("carry", 0, 3), ("carry", 0, 3), ("carry", 3, 0), ("carry", 3, 0)])
        self.assertEqual(where(hall), ("pledges", 0, (1,)))
        hall.run([("carry", 0, 1), ("carry", 0, 1), ("carry", 1, 0)])
        self.assertEqual(where(hall), ("pledges", 0, (1,)))
        hall.carry(1, 0)
        self.assertEqual(where(hall), ("has", 0))

    def test_the_least_that_lives(self):
        hall = call_hall(4, falls=True)
        hall.run([("fall", 0), ("fall", 1)])
        self.assertEqual(where(hall), ("marks", 2, (0, 1)))
        hall.run([("carry", 0, 3), ("carry", 1, 3), ("carry", 1, 2)])
        self.assertEqual(where(hall), ("marks", 2, (0,)))

    def test_nobody(self):
        hall = call_hall(2, falls=True)
        hall.run([("fall", 0), ("fall", 1)])
        self.assertEqual(where(hall), ("nobody",))
        # Whatever lies there.
        self.assertEqual(where_key(machines_of(hall), [(0, 1, ("key", 0, (), ()))], fallen=[1, 0]), ("nobody",))

    def test_a_void_key_is_on_no_way(self):
        hall = call_hall(4, first=3, falls=True)
        hall.run([("ask", 2), ("carry", 2, 3), ("fall", 1), ("carry", 1, 0)])
        self.assertEqual(where(hall), ("way", 3, 2))
        hall.carry(0, 2)
        # The ask of seat 0's round came ahead of the key.
        self.assertEqual(where(hall), ("pledges", 0, (2, 3)))
        hall.carry(3, 2)
        self.assertEqual(str(hall), "out fallen asking out")

    def test_a_key_to_a_fallen_seat(self):
        hall = call_hall(3, first=2, falls=True)
        hall.run([("ask", 1), ("carry", 1, 2), ("fall", 1)])
        self.assertEqual(where(hall), ("marks", 0, (1,)))
        key = ("key", 0, ((0, 0), (1, 0), (2, 0)), ())
        self.assertEqual(where_key(machines_of(hall), [(2, 1, key)], fallen=[1]), ("marks", 0, (1,)))

    def test_without_end_marks_and_in_any_order(self):
        hall = call_hall(4, first=3, falls=True)
        hall.run([("ask", 2), ("carry", 2, 3), ("fall", 1), ("fall", 0)])
        letters = hall.under_way()
        self.assertIn((1, 2, END_MARK), letters)
        for rows in (letters, [row for row in letters if row[2] != END_MARK]):
            for fallen in ([0, 1], [1, 0], (1, 0)):
                self.assertEqual(where_key(machines_of(hall), rows, fallen=fallen), ("way", 3, 2))
                self.assertEqual(where_key(machines_of(hall), [], fallen=fallen), ("marks", 2, (0, 1)))

    def test_row_is_a_tuple(self):
        hall = call_hall(3, first=2, falls=True)
        hall.fall(2)
        self.assertIs(type(where(hall)[2]), tuple)
        hall.carry(2, 0)
        self.assertIs(type(where(hall)[2]), tuple)


class Coming(unittest.TestCase):
    def test_nobody_asks(self):
        hall = call_hall(3)
        self.assertEqual(coming_of(hall), [])
        hall.ask(0)
        self.assertEqual(coming_of(hall), [])

    def test_none_while_an_ask_is_under_way(self):
        hall = call_hall(4, first=2)
        hall.run([("ask", 2), ("ask", 0)])
        self.assertIsNone(coming_of(hall))
        hall.run([("carry", 0, 2), ("carry", 0, 1)])
        self.assertIsNone(coming_of(hall))
        hall.carry(0, 3)
        self.assertEqual(coming_of(hall), [0])

    def test_none_behind_a_fall(self):
        hall = call_hall(3, first=2, falls=True)
        hall.ask(2)
        self.assertEqual(coming_of(hall), [])
        hall.fall(1)
        self.assertIsNone(coming_of(hall))
        self.assertIsNone(coming(machines_of(hall), [], fallen=(1,)))

    def heard(self, hall):
        """Carry all asks that are under way."""
        for a, b, letter in hall.under_way():
            if letter[0] == "ask":
                hall.carry(a, b)

    def test_from_behind_who_is_in(self):
        hall = call_hall(6, first=2)
        hall.run([("ask", seat) for seat in (2, 0, 1, 5, 4)])
        self.heard(hall)
        self.assertEqual(coming_of(hall), [4, 5, 0, 1])

    def test_the_line_ahead(self):
        hall = call_hall(6, first=2)
        hall.run([("ask", seat) for seat in (2, 0, 5)])
        self.heard(hall)
        hall.leave(2)
        self.assertEqual(coming_of(hall), [5, 0])
        hall.carry(2, 5)
        hall.run([("ask", 1), ("ask", 4), ("ask", 3)])
        self.heard(hall)
        self.assertEqual((str(hall), coming_of(hall)), ("asking asking out asking asking in", [0, 1, 3, 4]))

    def test_who_the_key_is_under_way_to(self):
        hall = call_hall(6, first=2)
        hall.run([("ask", seat) for seat in (2, 0, 3)])
        self.heard(hall)
        hall.leave(2)
        hall.run([("ask", 1), ("ask", 5), ("ask", 4)])
        for a in (1, 5, 4):
            for b in range(6):
                if a != b and (b, a) != (3, 2):
                    hall.carry(a, b)
        self.assertEqual(hall.roads(), [(2, 3)])
        self.assertEqual(coming_of(hall), [3, 0, 4, 5, 1])

    def test_callers_alone_are_looked_at(self):
        machines = [Caller(seat, 3) for seat in range(3)]
        machines[0].ask()
        machines[2].ask()
        self.assertEqual(coming(machines, [(2, 0, ("pledge", 0, 0, 0, 0)), (1, 2, END_MARK)]), [2])


if __name__ == "__main__":
    unittest.main()
