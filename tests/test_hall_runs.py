import unittest

from soleseat.base.errors import BadDeed, Fallen, NeverAsks, NoFalls, NoLetter, NoSeat, NotIn, NotOut
from soleseat.base.hall import CALM, Hall, tally
from soleseat.base.seats import Seat
from test_hall import A, B, C, Refusing, puppets, seats_of, seen
from things import ODD_THINGS, Odd


class Echo(Seat):
    """Sends each letter on to itself, so that a hall with it is never still."""

    def hear(self, sender, letter):
        return [(self.me, letter)]

    def leave(self):
        self.state = "out"
        return [(self.me, A)]


class Running(Refusing):
    def test_rows(self):
        hall = puppets([(False, [(1, A)])], [], falls=True)
        deeds = [("ask", 0), ("carry", 0, 1), ("ask", 1), ("leave", 1), ("fall", 1), ("carry", 1, 0)]
        told = hall.run(deeds)
        self.assertEqual(told, [("ask", 0), ("put", 0, 1, A), ("came", 0, 1, A), ("ask", 1), ("in", 1), ("out", 1),
                                ("fell", 1), ("gone", 1, 0), ("in", 0)])
        self.assertEqual(hall.rows(), told)
        self.assertEqual(hall.runs(), [6])
        self.assertEqual(len(deeds), 6)
        self.assertEqual(hall.run([("leave", 0)]), [("out", 0)])
        self.assertEqual(hall.run([]), [])
        self.assertEqual(hall.runs(), [6, 1, 0])

    def test_single_deeds_are_no_runs(self):
        hall = Hall(seats_of(1))
        hall.ask(0)
        hall.leave(0)
        self.assertEqual(hall.runs(), [])

    def test_refused_deeds_end_the_run(self):
        cases = [(("ask", 9), NoSeat), (("ask", 0), NotOut), (("ask", 2), NeverAsks), (("ask", 3), Fallen),
                 (("leave", 1), NotIn), (("leave", True), NoSeat), (("leave", 3), Fallen),
                 (("carry", 0, 2), NoLetter), (("carry", None, 0), NoSeat), (("carry", 0, ()), NoSeat),
                 (("fall", 3), Fallen), (("fall", -1), NoSeat)]
        for deed, error in cases:
            for place in range(4):
                hall = puppets([(False, [(1, B)])], [], [], [], falls=True, askers=2)
                hall.run([("ask", 0), ("fall", 3)])
                good = [("carry", 3, 0), ("carry", 0, 1), ("leave", 0)]
                deeds = good[:place] + [deed] + good[place:]
                same = puppets([(False, [(1, B)])], [], [], [], falls=True, askers=2)
                same.run([("ask", 0), ("fall", 3)])
                if deed == ("ask", 0) and place == 3:
                    continue
                with self.assertRaises(error) as caught:
                    hall.run(deeds)
                self.assertIs(type(caught.exception), error)
                self.assertEqual(deeds, good[:place] + [deed] + good[place:])
                same.run(good[:place])
                self.assertEqual(hall.runs(), [2, place])
                self.assertEqual(seen(hall), seen(same))

    def test_no_falls(self):
        hall = Hall(seats_of(1))
        with self.assertRaises(NoFalls):
            hall.run([("ask", 0), ("fall", 0), ("leave", 0)])
        self.assertEqual((hall.runs(), hall.rows()), ([1], [("ask", 0), ("in", 0)]))

    def test_what_the_machine_refuses(self):
        class Shyness(Exception):
            pass

        class Shy(Seat):
            def ask(self):
                raise Shyness()

        hall = Hall([Seat(0), Shy(1)])
        with self.assertRaises(Shyness):
            hall.run([("ask", 0), ("ask", 1), ("leave", 0)])
        self.assertEqual((hall.runs(), str(hall)), ([1], "in out"))

    def test_bad_deed(self):
        bad = ODD_THINGS + [
            0, ("ask",), ("ask", 0, 0), ("leave",), ("leave", 0, 0), ("carry", 0), ("carry",), ("carry", 0, 0, 0),
            ("fall",), ("fall", 0, 0), ("out", 0), ("in", 0), ("fell", 0), ("put", 0, 0, A), ("came", 0, 0, A),
            ("gone", 0, 0), ("Ask", 0), ("ask ", 0), ["ask", 0], "ask 0", (("ask", 0),), (b"ask", 0), (Odd(), 0),
            ([], 0), (0, 0), (None, 0),
        ]
        for thing in bad:
            for place in range(3):
                hall = Hall(seats_of(2), falls=True)
                deeds = [("ask", 0), ("leave", 0), ("ask", 1)]
                deeds.insert(place, thing)
                with self.assertRaises(BadDeed) as caught:
                    hall.run(deeds)
                self.assertEqual(caught.exception.at, place)
                self.assertEqual(hall.runs(), [place])
                self.assertEqual(hall.rows(), [("ask", 0), ("in", 0), ("out", 0)][:[0, 2, 3][place]])

    def test_refusals_come_in_the_order_of_the_deeds(self):
        hall = Hall(seats_of(1))
        with self.assertRaises(NoSeat):
            hall.run([("ask", 1), ("ask",)])
        with self.assertRaises(BadDeed):
            hall.run([("ask",), ("ask", 1)])
        self.assertEqual(hall.runs(), [0, 0])


class Calm(unittest.TestCase):
    def test_to_the_still_hall(self):
        hall = puppets([(False, [(1, A), (1, B)]), (False, []), (True, [])], [(True, []), (False, [(0, A)])],
                       [(True, [])])
        hall.ask(0)
        hall.ask(2)
        hall.ask(1)
        told = hall.calm()
        self.assertEqual(told, [
            ("came", 0, 1, A), ("put", 1, 0, A), ("came", 0, 1, B), ("came", 1, 0, A),
            ("out", 1), ("out", 2),
        ])
        self.assertEqual(str(hall), "asking out out")
        self.assertTrue(hall.still())
        self.assertEqual(hall.rows()[-6:], told)
        self.assertEqual(hall.runs(), [])
        self.assertEqual(hall.calm(), [])

    def test_first_road_by_pairs(self):
        hall = puppets([(True, [])], [(True, [(2, A), (0, A)])], [(True, [(1, A), (0, B)])])
        hall.run([("ask", 2), ("ask", 1), ("ask", 0)])
        self.assertEqual(hall.calm(), [("came", 1, 0, A), ("came", 1, 2, A), ("came", 2, 0, B), ("came", 2, 1, A),
                                       ("out", 0), ("out", 1), ("out", 2)])

    def test_letters_ahead_of_leaves(self):
        hall = puppets([(True, []), (True, [(1, A)])], [(True, [])])
        hall.run([("ask", 0), ("ask", 1)])
        self.assertEqual(hall.calm(), [("out", 0), ("put", 0, 1, A), ("came", 0, 1, A), ("out", 1)])

    def test_end_marks_too(self):
        hall = Hall(seats_of(3), falls=True)
        hall.run([("ask", 0), ("fall", 1), ("ask", 2), ("fall", 2)])
        self.assertEqual(hall.calm(), [("gone", 1, 0), ("gone", 2, 0), ("out", 0)])
        self.assertTrue(hall.still())

    def test_most(self):
        for most in range(8):
            hall = Hall(seats_of(5))
            hall.run([("ask", seat) for seat in range(5)])
            self.assertEqual(hall.calm(most=most), [("out", seat) for seat in range(min(5, most))])
            self.assertEqual(hall.within(), list(range(most, 5)))
            self.assertEqual(hall.still(), most >= 5)
            self.assertEqual(hall.runs(), [5])
        hall = Hall([Echo(0)])
        hall.ask(0)
        self.assertEqual(len(hall.calm(most=4)), 8)

    def test_by_name_alone(self):
        with self.assertRaises(TypeError):
            Hall(seats_of(1)).calm(3)

    def test_at_most_calm(self):
        self.assertEqual(CALM, 10000)
        hall = Hall([Echo(0)])
        hall.ask(0)
        self.assertEqual(len(hall.calm()), 20000)
        self.assertEqual(hall.under_way(), [(0, 0, A)])
        self.assertFalse(hall.still())


class Tally(unittest.TestCase):
    def test_tally(self):
        rows = [("put", 0, 1, B), ("ask", 0), ("put", 0, 1, A), ("came", 0, 1, C), ("put", 1, 0, ("bb", 7)), ("in", 0),
                ("gone", 1, 0), ("fell", 1), ("put", 1, 1, B), ("out", 0), ("came", 0, 1, A)]
        told = tally(rows)
        self.assertEqual(told, {"aa": 1, "bb": 3})
        self.assertEqual(list(told), ["aa", "bb"])
        self.assertEqual(tally([]), {})
        self.assertEqual(tally([("ask", 0), ("came", 0, 0, A)]), {})
        self.assertEqual(len(rows), 11)
        words = ["zz", "ab", "a", "b", "aa", "z"]
        self.assertEqual(list(tally([("put", 0, 0, (word,)) for word in words])), sorted(words))


if __name__ == "__main__":
    unittest.main()
