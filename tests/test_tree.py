import random
import unittest

from soleseat.base.errors import NoSeat
from soleseat.trees.errors import NoTree
from soleseat.trees.tree import FIRST, Tree
from things import ODD_THINGS, no_seats
from trees_of import second, some_ups, way

# 0 is the top; 1 and 2 stand under it, 3 and 4 under 1, 5 under 4.
UPS = [0, 0, 0, 1, 1, 4]
LINE = [0] + list(range(59))
STAR = [17] * 60
NO_UPS = [
    [], (), LINE + [0], [0] * 61, [1, 0], [0, 1], [0, 0, 2], [0, 2, 1], [1, 2, 0], [1, 2, 3, 0], [0, 0, 3, 4, 2],
    [0, 3, 0, 1], [-1], [0, -1], [1], [0, 2], [0, 0, 3], [0, 10 ** 60], [True], [False], [0, False], [0, True, 0],
    (True, True), [0.0], [0, 0.0], ["0"], "0", "00", b"\x00", range(1), {0: 0}, {0}, iter([0]), [[0]], [None], None,
    0, 1, [0, None], [None, 0],
]


class Made(unittest.TestCase):
    def test_first(self):
        self.assertEqual(FIRST, 0)

    def test_no_tree_of_anything(self):
        for ups in NO_UPS + ODD_THINGS + [(0, thing) for thing in ODD_THINGS] + [[thing] for thing in ODD_THINGS]:
            if isinstance(ups, (list, tuple)) and len(ups) == 1 and type(ups[0]) is int and ups[0] == 0:
                continue
            with self.assertRaises(NoTree) as caught:
                Tree(ups)
            self.assertEqual(vars(caught.exception), {})

    def test_trees(self):
        for ups in (UPS, LINE, STAR, [0], [1, 1], [0, 0], [1, 2, 2], [3, 3, 1, 3]):
            self.assertEqual(Tree(ups).told_ups(), ups)
            self.assertEqual(Tree(tuple(ups)).told_ups(), ups)

    def test_all_ups_of_few_seats(self):
        many = 0
        for seats in range(1, 5):
            for number in range(seats ** seats):
                ups = [number // seats ** place % seats for place in range(seats)]
                tops = [seat for seat in range(seats) if ups[seat] == seat]
                good = len(tops) == 1
                for seat in range(seats):
                    for _ in range(seats):
                        seat = ups[seat]
                    good = good and [seat] == tops
                if good:
                    Tree(ups)
                    many += 1
                else:
                    self.assertRaises(NoTree, Tree, ups)
        # As many as Cayley tells: of n seats n ** (n - 1) with a top.
        self.assertEqual(many, 1 + 2 + 9 + 64)

    def test_what_is_told_is_the_askers_own(self):
        ups = list(UPS)
        tree = Tree(ups)
        ups[5] = 0
        tree.told_ups()[1] = 5
        tree.beside(0).append(9)
        tree.way(5, 2).clear()
        self.assertEqual(tree.told_ups(), UPS)
        self.assertEqual(tree.beside(0), [1, 2])
        self.assertEqual(tree.way(5, 2), [5, 4, 1, 0, 2])


class Asked(unittest.TestCase):
    def test_beside(self):
        tree = Tree(UPS)
        self.assertEqual([tree.beside(seat) for seat in range(6)], [[1, 2], [0, 3, 4], [0], [1], [1, 5], [4]])
        self.assertEqual(Tree([0]).beside(0), [])
        self.assertEqual(Tree(STAR).beside(17), [seat for seat in range(60) if seat != 17])
        self.assertEqual(Tree(STAR).beside(59), [17])

    def test_way(self):
        tree = Tree(UPS)
        for a, b, wanted in ((3, 2, [3, 1, 0, 2]), (2, 3, [2, 0, 1, 3]), (5, 1, [5, 4, 1]), (1, 5, [1, 4, 5]),
                             (3, 5, [3, 1, 4, 5]), (4, 4, [4]), (0, 0, [0]), (0, 2, [0, 2])):
            self.assertEqual(tree.way(a, b), wanted)
            self.assertEqual(tree.apart(a, b), len(wanted) - 1)
            self.assertEqual(tree.second(a, b), wanted[1] if len(wanted) > 1 else a)
        self.assertEqual(Tree(LINE).way(59, 0), list(range(59, -1, -1)))
        self.assertEqual(Tree(STAR).way(3, 2), [3, 17, 2])

    def test_meeting(self):
        tree = Tree(UPS)
        for a, b, c, wanted in ((3, 5, 2, 1), (2, 3, 5, 1), (5, 2, 3, 1), (3, 3, 5, 3), (5, 3, 3, 3), (3, 5, 3, 3),
                                (2, 2, 2, 2), (0, 5, 4, 4), (5, 0, 4, 4), (2, 1, 0, 0)):
            self.assertEqual(tree.meeting(a, b, c), wanted)

    def test_farthest(self):
        for ups, wanted in ((UPS, (2, 5)), ([0], (0, 0)), ([1, 1], (0, 1)), (LINE, (0, 59)), (STAR, (0, 1)),
                            ([1, 1, 1], (0, 2)), ([0, 0, 0, 0], (1, 2)), ([0, 0, 1, 0, 3, 0, 5], (2, 4)),
                            ([2, 0, 2, 1], (2, 3)), ([5, 5, 5, 5, 5, 5], (0, 1)), ([0, 0, 1, 1, 0], (2, 4))):
            self.assertEqual(Tree(ups).farthest(), wanted)

    def test_hung(self):
        tree = Tree(UPS)
        self.assertEqual(tree.hung(0), tree)
        self.assertEqual(tree.hung(5).told_ups(), [1, 4, 0, 1, 5, 5])
        self.assertEqual(tree.hung(2).told_ups(), [2, 0, 2, 1, 1, 4])
        self.assertEqual(tree.told_ups(), UPS)
        self.assertEqual(Tree([0]).hung(0), Tree([0]))
        self.assertEqual(Tree(LINE).hung(59).told_ups(), list(range(1, 60)) + [59])

    def test_random_trees(self):
        chance = random.Random(25)
        for _ in range(60):
            ups = some_ups(chance, chance.randrange(1, 12))
            tree, seats = Tree(ups), range(len(ups))
            steps = {(a, b): len(way(ups, a, b)) - 1 for a in seats for b in seats}
            most = max(steps.values())
            self.assertEqual(tree.farthest(), min(pair for pair in steps if steps[pair] == most))
            for a in seats:
                hung = tree.hung(a)
                self.assertEqual(tree.beside(a), [b for b in seats if steps[a, b] == 1])
                self.assertEqual(hung.told_ups(), [second(ups, b, a) for b in seats])
                self.assertEqual([hung.beside(b) for b in seats], [tree.beside(b) for b in seats])
                for b in seats:
                    self.assertEqual(tree.way(a, b), way(ups, a, b))
                    self.assertEqual(tree.apart(a, b), steps[a, b])
                    self.assertEqual(tree.second(a, b), second(ups, a, b))
                    for c in seats:
                        ways = [set(way(ups, *pair)) for pair in ((a, b), (b, c), (a, c))]
                        self.assertEqual({tree.meeting(a, b, c)}, ways[0] & ways[1] & ways[2])

    def refused(self, ask, *seats):
        """The first seat handed in that is none is the one refused."""
        first = [seat for seat in seats if not isinstance(seat, int) or isinstance(seat, bool) or not 0 <= seat < 6][0]
        with self.assertRaises(NoSeat) as caught:
            ask(*seats)
        self.assertIs(caught.exception.seat, first)

    def test_no_seats(self):
        tree = Tree(UPS)
        for thing in no_seats(6):
            for ask in (tree.beside, tree.hung):
                self.refused(ask, thing)
            for ask in (tree.way, tree.apart, tree.second):
                self.refused(ask, thing, 0)
                self.refused(ask, 0, thing)
                self.refused(ask, thing, 6)
                self.refused(ask, 6, thing)
            for seats in ((thing, 0, 0), (0, thing, 0), (0, 0, thing), (thing, -1, 6), (0, thing, 6), (6, 0, thing),
                          (-1, thing, 0)):
                self.refused(tree.meeting, *seats)


class Values(unittest.TestCase):
    def test_equal(self):
        self.assertEqual(Tree(UPS), Tree(tuple(UPS)))
        self.assertNotEqual(Tree(UPS), Tree(UPS).hung(1))
        self.assertNotEqual(Tree([0]), Tree([0, 0]))
        self.assertNotEqual(Tree([0, 0]), Tree([1, 1]))
        for thing in ODD_THINGS + [UPS, tuple(UPS), "0 0 0 1 1 4"]:
            self.assertFalse(Tree(UPS) == thing)
            self.assertTrue(Tree(UPS) != thing)

    def test_len_and_str(self):
        self.assertEqual((len(Tree(UPS)), str(Tree(UPS))), (6, "0 0 0 1 1 4"))
        self.assertEqual((len(Tree([0])), str(Tree([0]))), (1, "0"))
        self.assertEqual((len(Tree(STAR)), str(Tree(STAR))), (60, " ".join(["17"] * 60)))


if __name__ == "__main__":
    unittest.main()
