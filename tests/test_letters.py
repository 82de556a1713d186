import string
import unittest

from soleseat.base.letters import is_letter, letter_fault
from things import ODD_THINGS, TUPLES, Odd, deep


class Letters(unittest.TestCase):
    def of(self, thing, fault):
        self.assertEqual(letter_fault(thing), fault)
        self.assertIs(is_letter(thing), fault is None)

    def test_words(self):
        for word in ("a", "z", "abcdefgh", "key", "gon", "gonee", "goner"):
            self.of((word,), None)
        for word in string.ascii_lowercase:
            self.of((word,), None)

    def test_no_words(self):
        for word in ("", "abcdefghi", "gone", "Key", "KEY", "k y", " key", "key ", "key\n", "k-y", "k_y", "k1", "1",
                     "`", "{", "\u00e9", "\u0430", "\u00df", "key\x00", "a" * 10 ** 6):
            self.of((word,), 0)
            self.of((word, 0), 0)

    def test_no_words_of_anything(self):
        for thing in ODD_THINGS:
            if not isinstance(thing, str) or thing not in ("a", "ask"):
                self.of((thing,), 0)
        self.of((("key",),), 0)
        self.of((0, "key"), 0)

    def test_no_tuple(self):
        self.of((), 0)
        for thing in ODD_THINGS:
            self.of(thing, 0)
        for thing in (0, -1, 10 ** 60, ["key"], "key"):
            self.of(thing, 0)

    def test_numbers(self):
        for number in (0, 1, 59, 60, 10 ** 60 - 1):
            self.of(("key", number), None)
            self.of(("key", (number,)), None)
        for number in (-1, -10 ** 60, 10 ** 60, 10 ** 60 + 1, 10 ** 5000):
            self.of(("key", number), 1)
            self.of(("key", (number,)), 1)

    def test_things_of_anything(self):
        for thing in ODD_THINGS:
            fault = None if any(thing is good for good in TUPLES) else 1
            self.of(("key", thing), fault)
            self.of(("key", (0, thing)), fault)
        self.of(("key", Odd()), 1)

    def test_depth(self):
        for many in (1, 2, 3):
            self.of(("key", deep(many)), None)
            self.of(("key", 0, deep(many), 0), None)
        for many in (4, 5, 1000, 100000):
            self.of(("key", deep(many)), 1)
            self.of(("key", 0, deep(many)), 2)
        self.of(("key", (((0,),),)), None)
        self.of(("key", (((0, ()),),)), 1)
        self.of(("key", ((((0,),),),)), 1)
        self.of(("key", (((1, 2), 3), ((4,), (5, 6)))), None)

    def test_first_place(self):
        self.of(("key", 0, (), -1, True, None), 3)
        self.of(("key", 0, deep(4), True), 2)
        self.of(("key", 0, True, deep(4)), 2)
        self.of(("key", (0, -1), -1), 1)
        self.of(("gone", -1), 0)
        self.of(("key",) + (7,) * 300 + ([],), 301)
        self.of(("key",) + (7,) * 300, None)


if __name__ == "__main__":
    unittest.main()
