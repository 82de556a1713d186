import unittest

from soleseat.base.errors import BadLetter, Fallen, NoLetter, NoSeat
from soleseat.base.post import SEATS, Post
from things import ODD_THINGS, no_seats

A, B, C = ("aa",), ("bb", 1), ("cc", (2, (3,)))
GONE = ("gone",)


def filled():
    """A post of three seats with something on four of its roads."""
    post = Post(3)
    for a, b, letter in ((2, 0, A), (0, 1, A), (0, 1, B), (1, 1, C), (0, 1, A), (0, 2, B)):
        post.put(a, b, letter)
    return post


def seen(post):
    return post.seats, post.under_way(), str(post), [post.letters(a, b) for a in range(3) for b in range(3)]


class Making(unittest.TestCase):
    def test_seats(self):
        self.assertEqual(SEATS, 60)
        for seats in (1, 2, 60):
            self.assertEqual(Post(seats).seats, seats)
        self.assertEqual(str(Post(1)), "1 seats, 0 under way")
        self.assertEqual(str(Post(60)), "60 seats, 0 under way")

    def test_no_seats(self):
        for seats in ODD_THINGS + [0, 61, -1, 10 ** 60]:
            with self.assertRaises(NoSeat) as caught:
                Post(seats)
            self.assertIs(caught.exception.seat, seats)


class Roads(unittest.TestCase):
    def test_put_tells_nothing(self):
        self.assertIsNone(Post(1).put(0, 0, A))

    def test_order_on_a_road(self):
        post = filled()
        self.assertEqual(post.letters(0, 1), [A, B, A])
        self.assertEqual([post.carry(0, 1) for _ in range(3)], [A, B, A])
        self.assertEqual(post.letters(0, 1), [])
        self.assertEqual(post.carry(2, 0), A)

    def test_roads_are_apart(self):
        post = Post(2)
        for a in range(2):
            for b in range(2):
                post.put(a, b, ("on", a, b))
        for a in range(2):
            for b in range(2):
                self.assertEqual(post.letters(a, b), [("on", a, b)])

    def test_to_oneself(self):
        post = Post(1)
        post.put(0, 0, A)
        post.put(0, 0, B)
        self.assertEqual((post.carry(0, 0), post.carry(0, 0)), (A, B))

    def test_told(self):
        post = filled()
        self.assertEqual(post.roads(), [(0, 1), (0, 2), (1, 1), (2, 0)])
        self.assertEqual(post.under_way(), [(0, 1, A), (0, 1, B), (0, 1, A), (0, 2, B), (1, 1, C), (2, 0, A)])
        self.assertEqual(len(post), 6)
        self.assertEqual(str(post), "3 seats, 6 under way")
        post.carry(0, 2)
        self.assertEqual(post.roads(), [(0, 1), (1, 1), (2, 0)])
        self.assertEqual(len(post), 5)

    def test_roads_rise_as_numbers(self):
        post = Post(12)
        for a, b in ((10, 2), (2, 11), (2, 9), (10, 10), (10, 3)):
            post.put(a, b, A)
        self.assertEqual(post.roads(), [(2, 9), (2, 11), (10, 2), (10, 3), (10, 10)])

    def test_what_is_told_is_the_askers(self):
        post = filled()
        for told in (post.letters(0, 1), post.letters(1, 0), post.roads(), post.under_way()):
            told.append(("own",))
            del told[0]
        self.assertEqual(seen(post), seen(filled()))
        old = post.letters(0, 1)
        post.carry(0, 1)
        self.assertEqual(old, [A, B, A])


class Falls(unittest.TestCase):
    def test_letters_to_the_fallen_are_taken_off(self):
        post = filled()
        self.assertIsNone(post.fall(1))
        self.assertEqual(post.under_way(), [(0, 2, B), (1, 0, GONE), (1, 2, GONE), (2, 0, A)])
        self.assertEqual(len(post), 4)

    def test_what_is_put_to_the_fallen_is_not_kept(self):
        post = Post(2)
        post.fall(1)
        self.assertIsNone(post.put(0, 1, A))
        self.assertEqual(post.under_way(), [(1, 0, GONE)])
        self.assertEqual(str(post), "2 seats, 1 under way")

    def test_end_mark_comes_last(self):
        post = filled()
        post.fall(0)
        self.assertEqual(post.letters(0, 1), [A, B, A, GONE])
        self.assertEqual(post.letters(0, 2), [B, GONE])
        self.assertEqual(post.letters(0, 0), [])
        self.assertEqual([post.carry(0, 1) for _ in range(4)], [A, B, A, GONE])

    def test_end_marks_are_taken_off_too(self):
        post = Post(3)
        post.fall(0)
        post.fall(1)
        self.assertEqual(post.under_way(), [(0, 2, GONE), (1, 2, GONE)])
        post.fall(2)
        self.assertEqual(post.under_way(), [])
        self.assertEqual(len(post), 0)

    def test_alone(self):
        post = Post(1)
        post.put(0, 0, A)
        post.fall(0)
        self.assertEqual(len(post), 0)


class Refusals(unittest.TestCase):
    def test_no_seat(self):
        post = filled()
        for thing in no_seats(3):
            for call in (lambda: post.put(thing, 0, A), lambda: post.put(0, thing, A), lambda: post.carry(thing, 0),
                         lambda: post.carry(0, thing), lambda: post.fall(thing), lambda: post.letters(thing, 0),
                         lambda: post.letters(0, thing)):
                with self.assertRaises(NoSeat) as caught:
                    call()
                self.assertIs(caught.exception.seat, thing)
        self.assertEqual(seen(post), seen(filled()))

    def test_a_ahead_of_b_ahead_of_all_else(self):
        post = Post(3)
        post.fall(1)
        for call in (lambda: post.put(-1, -2, ()), lambda: post.carry(-1, -2), lambda: post.letters(-1, -2)):
            with self.assertRaises(NoSeat) as caught:
                call()
            self.assertEqual(caught.exception.seat, -1)
        with self.assertRaises(NoSeat) as caught:
            post.put(1, 3, ())
        self.assertEqual(caught.exception.seat, 3)

    def test_bad_letter(self):
        post = filled()
        for letter in ODD_THINGS + [GONE, 0]:
            with self.assertRaises(BadLetter) as caught:
                post.put(0, 1, letter)
            self.assertEqual(caught.exception.at, 0)
        for letter, at in ((("key", -1), 1), (("key", 1, (), [], -1), 3)):
            with self.assertRaises(BadLetter) as caught:
                post.put(0, 1, letter)
            self.assertEqual(caught.exception.at, at)
        self.assertEqual(seen(post), seen(filled()))

    def test_fallen(self):
        post = Post(3)
        post.fall(1)
        with self.assertRaises(BadLetter):
            post.put(1, 0, GONE)
        with self.assertRaises(BadLetter):
            post.put(0, 1, GONE)
        for call in (lambda: post.put(1, 0, A), lambda: post.put(1, 1, A), lambda: post.fall(1)):
            with self.assertRaises(Fallen) as caught:
                call()
            self.assertEqual(caught.exception.seat, 1)
        self.assertEqual(post.under_way(), [(1, 0, GONE), (1, 2, GONE)])

    def test_no_letter(self):
        post = filled()
        post.fall(2)
        for a, b in ((1, 0), (0, 0), (0, 2), (2, 2)):
            with self.assertRaises(NoLetter) as caught:
                post.carry(a, b)
            self.assertEqual((caught.exception.sender, caught.exception.to), (a, b))
        post.carry(1, 1)
        with self.assertRaises(NoLetter):
            post.carry(1, 1)


class Equal(unittest.TestCase):
    def test_equal(self):
        self.assertTrue(filled() == filled())
        self.assertFalse(filled() != filled())
        self.assertEqual(Post(4), Post(4))

    def test_same_roads_by_another_way(self):
        post = Post(3)
        post.put(1, 0, C)
        for a, b, letter in ((1, 1, C), (0, 2, B), (2, 0, A), (0, 1, A), (0, 1, B), (0, 1, A)):
            post.put(a, b, letter)
        self.assertNotEqual(post, filled())
        post.carry(1, 0)
        self.assertEqual(post, filled())

    def test_unlike(self):
        self.assertNotEqual(Post(3), Post(4))
        for a, b, letter in ((1, 2, A), (0, 1, A)):
            post = filled()
            post.put(a, b, letter)
            self.assertNotEqual(post, filled())
        left, right = Post(2), Post(2)
        left.put(0, 1, A)
        left.put(0, 1, B)
        right.put(0, 1, B)
        right.put(0, 1, A)
        self.assertNotEqual(left, right)

    def test_fallen_ones_count(self):
        one, two = Post(2), Post(2)
        for post, seat in ((one, 0), (two, 1)):
            post.fall(seat)
            post.fall(1 - seat)
        self.assertEqual(one, two)
        post = Post(2)
        post.fall(0)
        post.carry(0, 1)
        self.assertEqual(len(post), 0)
        self.assertNotEqual(post, Post(2))
        self.assertNotEqual(post, one)

    def test_other_things(self):
        self.assertFalse(Post(1) == 1)
        self.assertFalse(Post(1) == None)  # noqa: E711
        self.assertFalse(Post(1) == "1 seats, 0 under way")


if __name__ == "__main__":
    unittest.main()
