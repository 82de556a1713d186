import random
import re
import unittest

from plans_of import leaves, some_plan
from soleseat.nests.errors import BadText, NoBranch
from soleseat.nests.plans import MANNERS, Branch, Leaf
from soleseat.nests.texts import read_plan

DOCUMENT = "[ votes 0 1 | 1 2 | 0 2 : o [ tree 0 : o o ] o ]"


class Reader:
    """Point 61 in another way: a text is read part within part, and (place, why) told where it is none."""

    def __init__(self, text):
        self.words = re.findall(r"[^ \n]+", text)
        self.at = 0

    def read(self):
        """(plan, None), or (None, (place, why))."""
        for at, word in enumerate(self.words):
            if not re.fullmatch(r"o|\[|\]|:|\||stamps|tree|turning|votes|calls|0|[1-9][0-9]{0,3}", word):
                return None, (at, "word")
        try:
            plan = self.branch(0)
            self.need(self.at == len(self.words))
            return plan, None
        except BadText as error:
            return None, (error.at, error.why)

    def need(self, truth):
        if not truth:
            raise BadText(self.at, "form")

    def next(self, pattern):
        self.need(self.at < len(self.words) and re.fullmatch(pattern, self.words[self.at]))
        self.at += 1
        return self.words[self.at - 1]

    def branch(self, within):
        start = self.at
        self.next(r"\[")
        if within == 6:
            raise BadText(start, "deep")
        manner = self.next("|".join(MANNERS))
        heads = []
        word = self.next(r":|\d+|\|" if manner == "votes" else r":|\d+")
        while word != ":":
            heads.append(word)
            word = self.next(r":|\d+|\|" if manner == "votes" else r":|\d+")
        parts = []
        while self.at == len(self.words) or self.words[self.at] != "]":
            self.need(self.at < len(self.words) and self.words[self.at] in ("o", "["))
            parts.append(Leaf() if self.words[self.at] == "o" else self.branch(within + 1))
            self.at += isinstance(parts[-1], Leaf)
        self.at += 1
        return self.made(start, manner, parts, heads)

    def made(self, start, manner, parts, heads):
        above, sets = [], []
        if manner != "votes":
            above = [int(word) for word in heads]
        elif heads:
            sets = [tuple(int(word) for word in one.split()) for one in " ".join(heads).split("|")]
        try:
            return Branch(manner, parts, above=above, sets=sets)
        except NoBranch as error:
            raise BadText(start, error.why)


class Read(unittest.TestCase):
    def test_by_hand(self):
        plan = read_plan(DOCUMENT)
        self.assertIsInstance(plan, Branch)
        self.assertEqual(plan, Branch("votes", [Leaf(), Branch("tree", leaves(2), above=[0]), Leaf()],
                                      sets=[(0, 1), (1, 2), (0, 2)]))
        self.assertEqual((plan.sets, plan.parts[1].above), (((0, 1), (1, 2), (0, 2)), (0,)))
        self.assertEqual(read_plan("[ turning : o ]"), Branch("turning", leaves(1)))

    def test_blanks_and_line_ends(self):
        for text in (DOCUMENT + " ", " " + DOCUMENT, "\n" + DOCUMENT + "\n\n", DOCUMENT.replace(" ", "\n"),
                     DOCUMENT.replace(" ", " \n  "), "  \n" + DOCUMENT.replace(" ", "   ")):
            self.assertEqual(str(read_plan(text)), DOCUMENT)

    def test_random_plans(self):
        chance = random.Random(61)
        deepest = 0
        for _ in range(300):
            plan = some_plan(chance, chance.choice((5, 20)), 6)
            text = str(plan)
            self.assertEqual(read_plan(text), plan)
            self.assertEqual(str(read_plan(text)), text)
            mixed = "".join(chance.choice((" ", "\n", "  ", " \n ")) if sign == " " else sign for sign in text)
            self.assertEqual(str(read_plan(mixed)), text)
            deepest = max(deepest, plan.deep())
        self.assertEqual(deepest, 6)


class Refused(unittest.TestCase):
    def refused(self, text, at, why):
        with self.assertRaises(BadText) as caught:
            read_plan(text)
        self.assertEqual(vars(caught.exception), {"at": at, "why": why})
        self.assertEqual(Reader(text).read(), (None, (at, why)))

    def test_words(self):
        for word in ("O", "oo", "[]", "[[", "x", "00", "01", "007", "10000", "99999", "00000", "+1", "-1", "1.0", "1_0",
                     "Stamps", "stamp", "stampsx", "::", "||", "()", "o]", "[stamps", "tree:", ",", "~", "!", "1o",
                     "9" * 6000):
            self.refused(word, 0, "word")
            self.refused(f"[ stamps : o {word} ]", 4, "word")
            self.refused(f"] ] ] : {word} 12345", 4, "word")
            self.refused(f"[ votes {word} : o ]", 2, "word")
            self.refused(f"[ stamps : o ]\n{word}", 5, "word")
        for number in ("0", "9", "10", "9999"):
            self.refused(f"[ calls {number} : o ]", 0, "above")

    def test_the_text_ends_too_early(self):
        for text in ("", " ", "\n", "[", "[ stamps", "[ tree 0", "[ votes 0 |", "[ stamps :", "[ stamps : o",
                     "[ stamps : [ calls : o ]", "[ stamps : [ calls"):
            self.refused(text, len(text.split()), "form")

    def test_what_cannot_stand_first(self):
        for word in ("o", "]", ":", "|", "0", "17") + MANNERS:
            self.refused(word, 0, "form")
            self.refused(word + " " + DOCUMENT, 0, "form")

    def test_what_cannot_stand_behind_an_opening(self):
        for word in ("o", "[", "]", ":", "|", "0"):
            self.refused(f"[ {word} : o ]", 1, "form")
            self.refused(f"[ stamps : [ {word}", 4, "form")

    def test_what_cannot_stand_behind_a_manner(self):
        for manner in MANNERS:
            for word in ("o", "[", "]") + MANNERS + ("|",) * (manner != "votes"):
                self.refused(f"[ {manner} {word} : o ]", 2, "form")
                self.refused(f"[ {manner} 0 0 {word} : o ]", 4, "form")
        self.refused("[ tree 0 | 0 : o o o ]", 3, "form")
        for word in ("o", "[", "]") + MANNERS:
            self.refused(f"[ votes 0 | {word}", 4, "form")

    def test_what_cannot_stand_among_parts(self):
        for word in (":", "|", "0", "9") + MANNERS:
            self.refused(f"[ stamps : {word} ]", 3, "form")
            self.refused(f"[ votes 0 : o {word} ]", 5, "form")
            self.refused(f"[ stamps : [ calls : o ] {word}", 8, "form")

    def test_words_behind_the_end(self):
        for word in ("o", "[", "]", ":", "|", "0") + MANNERS:
            self.refused(f"[ stamps : o ] {word}", 5, "form")
            self.refused(DOCUMENT + " " + word, 21, "form")

    def test_deep(self):
        for manner in ("stamps", "calls"):
            for many in (7, 8, 12):
                self.refused(f"[ {manner} : " * many + "o" + " ]" * many, 18, "deep")
            self.refused("[ stamps : o " * 6 + "[", 24, "deep")
            self.refused("[ stamps : " * 6 + "o ] " + "[ calls : [", 23, "deep")
            self.assertEqual(read_plan("[ stamps : " * 6 + "o ]" + " ]" * 5).deep(), 6)
        # Where none can stand, that comes first.
        self.refused("[ stamps : " * 5 + "[ stamps [", 17, "form")

    def test_what_no_branch_says(self):
        self.refused("[ stamps : ]", 0, "parts")
        self.refused("[ calls : o [ tree : ] ]", 4, "parts")
        self.refused("[ tree 0 : o ]", 0, "above")
        self.refused("[ tree : o o ]", 0, "above")
        self.refused("[ turning 0 2 : o o o ]", 0, "above")
        self.refused("[ turning 1 : o o ]", 0, "above")
        self.refused("[ stamps 0 : o o ]", 0, "above")
        self.refused("[ calls 5 : o o ]", 0, "above")
        self.refused("[ votes : o ]", 0, "sets")
        self.refused("[ votes | : o ]", 0, "sets")
        self.refused("[ votes 0 | : o ]", 0, "sets")
        self.refused("[ votes | 0 : o ]", 0, "sets")
        self.refused("[ votes 0 1 | | 1 : o o ]", 0, "sets")
        self.refused("[ votes 0 0 : o ]", 0, "sets")
        self.refused("[ votes 1 0 : o o ]", 0, "sets")
        self.refused("[ votes 0 2 : o o ]", 0, "sets")
        self.refused("[ votes 0 | 0 : o o ]", 0, "sets")
        self.refused("[ votes 0 | 1 : o o ]", 0, "apart")
        self.refused("[ votes " + " | ".join(["0"] * 201) + " : o ]", 0, "sets")
        self.refused("[ stamps : o o [ votes 0 | 1 : o o ] ]", 5, "apart")

    def test_many(self):
        self.assertEqual(len(read_plan("[ stamps :" + " o" * 60 + " ]")), 60)
        self.refused("[ stamps :" + " o" * 61 + " ]", 0, "many")
        self.refused("[ stamps : o [ calls :" + " o" * 61 + " ] ]", 4, "many")
        self.refused("[ stamps : [ calls :" + " o" * 60 + " ] ]", 0, "many")
        self.refused("[ stamps :" + " o" * 5000 + " ]", 0, "many")
        self.refused("[ stamps :" + " [ calls : o ]" * 31 + " ]", 0, "many")

    def test_from_left_to_right(self):
        # A branch is looked at where it ends, ahead of what stands behind.
        self.refused("[ stamps : [ calls : ] :", 3, "parts")
        self.refused("[ stamps : ] o", 0, "parts")
        self.refused("[ stamps : : [ calls : ] ]", 3, "form")
        self.refused("[ votes 0 | 1 : o [ calls : ] ]", 7, "parts")
        self.refused("[ votes 0 | 1 : o [ calls : [ ]", 11, "form")
        self.refused("[ tree 7 : [ calls : ] [ calls : ] ]", 4, "parts")
        self.refused("[ stamps : [ tree 0 : o ] x ]", 9, "word")

    def test_random_texts(self):
        chance = random.Random(62)
        pool = ["o", "[", "]", ":", "|", "0", "1", "2", "x", "03"] + list(MANNERS)
        told = {}
        for _ in range(6000):
            words = some_plan(chance, 6, 3).words()
            for _ in range(chance.randrange(4)):
                at = chance.randrange(len(words) + 1)
                words[at:at + chance.randrange(2)] = [chance.choice(pool)] * chance.randrange(2)
            text = " ".join(words)
            wanted, fault = Reader(text).read()
            try:
                self.assertEqual(read_plan(text), wanted)
                why = None
            except BadText as error:
                self.assertEqual((error.at, error.why), fault, text)
                why = error.why
            told[why] = told.get(why, 0) + 1
        for why in (None, "word", "form", "parts", "above", "sets", "apart"):
            self.assertGreater(told[why], 10, why)


if __name__ == "__main__":
    unittest.main()
