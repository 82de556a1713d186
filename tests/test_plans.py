import random
import unittest

from plans_of import leaves, some_plan
from soleseat.nests.errors import NoBranch
from soleseat.nests.plans import DEEPEST, MANNERS, MOST, Branch, Leaf, places
from things import ODD_THINGS

TRIANGLE = ((0, 1), (1, 2), (0, 2))


def chain_of(many):
    """So many branches within one another, a leaf in the last."""
    plan = Leaf()
    for _ in range(many):
        plan = Branch("stamps", [plan])
    return plan


def document_plan():
    return Branch("votes", [Leaf(), Branch("tree", leaves(2), above=[0]), Leaf()], sets=[(0, 1), (1, 2), (0, 2)])


class Leaves(unittest.TestCase):
    def test_leaf(self):
        leaf = Leaf()
        self.assertEqual((len(leaf), str(leaf), leaf.words(), leaf.deep(), leaf.halls()), (1, "o", ["o"], 0, 0))
        self.assertTrue(leaf == Leaf() and not leaf != Leaf())
        for thing in ODD_THINGS + ["o", ["o"], Leaf, Branch("stamps", [leaf])]:
            self.assertFalse(leaf == thing)
            self.assertTrue(leaf != thing)

    def test_words_are_the_askers_own(self):
        leaf = Leaf()
        leaf.words().append("o")
        self.assertEqual(leaf.words(), ["o"])


class Branches(unittest.TestCase):
    def test_values_of_the_document(self):
        self.assertEqual((MANNERS, DEEPEST, MOST), (("stamps", "tree", "turning", "votes", "calls"), 6, 60))

    def test_the_plan_of_the_document(self):
        plan = document_plan()
        self.assertEqual(str(plan), "[ votes 0 1 | 1 2 | 0 2 : o [ tree 0 : o o ] o ]")
        self.assertEqual(plan.words(), str(plan).split())
        self.assertEqual((len(plan), plan.deep(), plan.halls()), (4, 2, 2))
        self.assertEqual(places(plan), [(0,), (1, 0), (1, 1), (2,), (1,)])

    def test_texts(self):
        for manner in ("stamps", "calls"):
            self.assertEqual(str(Branch(manner, leaves(3))), f"[ {manner} : o o o ]")
        self.assertEqual(str(Branch("tree", leaves(1))), "[ tree : o ]")
        self.assertEqual(str(Branch("turning", leaves(12), above=list(range(11)))),
                         "[ turning 0 1 2 3 4 5 6 7 8 9 10 : o o o o o o o o o o o o ]")
        self.assertEqual(str(Branch("votes", leaves(1), sets=[(0,)])), "[ votes 0 : o ]")
        self.assertEqual(str(Branch("votes", leaves(3), sets=[(0, 2), (0, 1, 2)])), "[ votes 0 2 | 0 1 2 : o o o ]")

    def test_values_are_tuples(self):
        parts, above = leaves(3), [0, 1]
        plan = Branch("tree", parts, above=above)
        self.assertEqual((plan.manner, plan.parts, plan.above, plan.sets), ("tree", tuple(parts), (0, 1), ()))
        for value in (plan.parts, plan.above, plan.sets):
            self.assertIs(type(value), tuple)
        parts.append(Leaf())
        above[0] = 7
        self.assertEqual(str(plan), "[ tree 0 1 : o o o ]")
        sets = list(TRIANGLE)
        plan = Branch("votes", tuple(leaves(3)), sets=sets, above=[])
        sets.clear()
        self.assertEqual((plan.sets, plan.above), (TRIANGLE, ()))
        plan.words().clear()
        self.assertEqual(str(plan), "[ votes 0 1 | 1 2 | 0 2 : o o o ]")
        again = Branch(plan.manner, plan.parts, above=plan.above, sets=plan.sets)
        self.assertEqual(again, plan)

    def test_equal(self):
        self.assertEqual(document_plan(), document_plan())
        plans = [Branch("stamps", leaves(2)), Branch("calls", leaves(2)), Branch("stamps", leaves(3)), Leaf(),
                 Branch("tree", leaves(3), above=[0, 0]), Branch("tree", leaves(3), above=[0, 1]),
                 Branch("turning", leaves(3), above=[0, 1]), Branch("votes", leaves(3), sets=TRIANGLE),
                 Branch("votes", leaves(3), sets=TRIANGLE[::-1]), Branch("votes", leaves(3), sets=[(0, 1)]),
                 Branch("stamps", [Branch("stamps", leaves(2))]), Branch("stamps", [Leaf(), chain_of(1)]),
                 Branch("stamps", [chain_of(1), Leaf()])]
        for one in plans:
            for other in plans:
                self.assertIs(one == other, one is other)
                self.assertIs(one != other, one is not other)
        for thing in ODD_THINGS + ["[ stamps : o o ]", ["[", "stamps", ":", "o", "o", "]"]]:
            self.assertFalse(plans[0] == thing)

    def test_a_part_twice(self):
        leaf = Leaf()
        branch = Branch("calls", [leaf, leaf])
        plan = Branch("stamps", [branch, leaf, branch])
        self.assertEqual(str(plan), "[ stamps : [ calls : o o ] o [ calls : o o ] ]")
        self.assertEqual((len(plan), plan.deep(), plan.halls()), (5, 2, 3))
        self.assertEqual(places(plan), [(0, 0), (0, 1), (1,), (2, 0), (2, 1), (0,), (2,)])

    def test_counts_of_random_plans(self):
        chance = random.Random(60)
        for _ in range(200):
            plan = some_plan(chance, 20, 6)
            words = plan.words()
            depth, deepest, found, porters, at = 0, 0, [], [], []
            for word in words:
                if word in ("o", "["):
                    path = tuple(at)
                    (found if word == "o" else porters).append(path)
                if word == "[":
                    depth += 1
                    at.append(0)
                elif word == "]":
                    depth -= 1
                    at.pop()
                if word in ("o", "]") and at:
                    at[-1] += 1
                deepest = max(deepest, depth)
            self.assertEqual((len(plan), plan.deep(), plan.halls()),
                             (words.count("o"), deepest, words.count("[")))
            self.assertEqual(places(plan), found + porters[1:])


class NoBranches(unittest.TestCase):
    def refused(self, why, *things, **more):
        with self.assertRaises(NoBranch) as caught:
            Branch(*things, **more)
        self.assertEqual(vars(caught.exception), {"why": why})

    def test_manner(self):
        for thing in ODD_THINGS + ["stamp", "Stamps", "stamps ", "trees", "turn", "vote", "call", "stampscalls", "o",
                                   ("stamps",), ["tree"], b"calls", 0, 1, 5]:
            self.refused("manner", thing, leaves(2))
            self.refused("manner", thing, None, above=None, sets=None)

    def test_parts(self):
        nothing = [thing for thing in ODD_THINGS if not isinstance(thing, str)]
        for manner in MANNERS:
            for thing in nothing + ["", "o", "[ calls : o ]", Leaf(), chain_of(1), {0: Leaf()}, iter([Leaf()]), Leaf]:
                self.refused("parts", manner, thing)
                self.refused("parts", manner, thing, above=None, sets=None)
            for thing in ODD_THINGS + ["o", Leaf, Branch, [Leaf()], 0]:
                self.refused("parts", manner, [thing])
                self.refused("parts", manner, (Leaf(), thing))
                self.refused("parts", manner, leaves(61) + [thing])
            self.refused("parts", manner, [])
            self.refused("parts", manner, ())

    def test_many(self):
        for manner in ("stamps", "calls"):
            self.assertEqual(len(Branch(manner, leaves(60))), 60)
            self.refused("many", manner, leaves(61))
        # 30 branches with a leaf in each are sixty.
        self.assertEqual(Branch("stamps", [chain_of(1)] * 30).halls(), 31)
        self.refused("many", "stamps", [chain_of(1)] * 30 + [Leaf()])
        self.refused("many", "stamps", [Leaf()] + [chain_of(1)] * 30)
        full = Branch("stamps", leaves(60))
        self.refused("many", "stamps", [full])
        self.assertEqual(len(places(Branch("stamps", [Branch("stamps", leaves(59))]))), 60)
        self.refused("many", "tree", leaves(61), above=None)
        self.refused("many", "votes", leaves(61), sets=None)
        self.refused("many", "calls", [chain_of(6)] * 9)
        self.refused("many", "stamps", leaves(20000))

    def test_deep(self):
        self.assertEqual([chain_of(many).deep() for many in range(7)], list(range(7)))
        self.refused("deep", "stamps", [chain_of(6)])
        self.refused("deep", "calls", [Leaf(), chain_of(5), chain_of(6), Leaf()])
        self.refused("deep", "tree", [chain_of(6)], above=None)
        self.refused("deep", "votes", [chain_of(6)], sets=None)
        self.assertEqual(Branch("stamps", [Leaf(), chain_of(5), chain_of(2)]).deep(), 6)

    def test_above(self):
        for manner in ("tree", "turning"):
            for above in ([], [0, 0, 0], [0], [1, 0], [0, 2], [-1, 0], [0, -1], [True, 0], [0, True], [False, 0],
                          [0.0, 0], ["0", 0], [None, 0], (0, 3), [0, 10 ** 60]):
                self.refused("above", manner, leaves(3), above=above)
                self.refused("above", manner, leaves(3), above=tuple(above), sets=None)
            for thing in ODD_THINGS:
                self.refused("above", manner, leaves(4), above=thing)
                self.refused("above", manner, leaves(3), above=[0, thing])
                self.refused("above", manner, leaves(3), above=(thing, 0))
            self.refused("above", manner, leaves(1), above=[0])
            for above in ([0, 0], (0, 1), [0, 1]):
                self.assertEqual(Branch(manner, leaves(3), above=above).above, tuple(above))
            self.assertEqual(Branch(manner, leaves(1), above=[]).above, ())

    def test_above_of_other_manners(self):
        for manner in ("stamps", "votes", "calls"):
            for above in ([0], (0,), [0, 0], [None], [-5], [()]):
                self.refused("above", manner, leaves(3), above=above, sets=None)
            self.refused("above", manner, leaves(2), above=[0], sets=TRIANGLE if manner == "votes" else ())

    def test_sets(self):
        three = leaves(3)
        for sets in ([], (), [()], [(3,)], [(-1,)], [(0, 1), (1, 0)], [(0, 0)], [(0, 1), (0, 1)], [(0, 1), (0, 3)],
                     [[0, 1]], [0], [(True,)], [(0, False)], [(None,)], [("0",)], ["0"], [range(2)], [{0, 1}],
                     [(0,), (1,), ()], [(0, 1)] * 201, [[0]] * 201):
            self.refused("sets", "votes", three, sets=sets)
            self.refused("sets", "votes", three, sets=tuple(sets))
        for thing in ODD_THINGS:
            self.refused("sets", "votes", three, sets=thing)
            self.refused("sets", "votes", three, sets=[(0, 1), (0, thing)])
            self.refused("sets", "votes", three, sets=[(), thing])
            self.refused("sets", "votes", three, sets=[thing, 0])

    def test_how_many_sets(self):
        sets = [tuple(sorted({0, one, other})) for one in range(1, 60) for other in range(one, 60)]
        self.assertEqual(len(Branch("votes", leaves(60), sets=sets[:200]).sets), 200)
        self.refused("sets", "votes", leaves(60), sets=sets[:201])

    def test_sets_of_other_manners(self):
        for manner, above in (("stamps", ()), ("tree", (0, 0)), ("turning", (0, 1)), ("calls", ())):
            for sets in ([(0, 1)], TRIANGLE, [()], [None], [0], [(0,), (1,)]):
                self.refused("sets", manner, leaves(3), above=above, sets=sets)

    def test_apart(self):
        self.refused("apart", "votes", leaves(2), sets=[(0,), (1,)])
        self.refused("apart", "votes", leaves(4), sets=TRIANGLE + ((0, 3),))
        self.refused("sets", "votes", leaves(2), sets=[(0,), (1,), (2,)])
        self.assertEqual(Branch("votes", leaves(4), sets=[(0,), (0, 1)]).sets, ((0,), (0, 1)))


if __name__ == "__main__":
    unittest.main()
