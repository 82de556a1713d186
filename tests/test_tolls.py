import random
import unittest

from driving import machines_of
from plans_of import leaves, some_plan
from soleseat.base.errors import NoSeat
from soleseat.base.hall import tally
from soleseat.nests.nest import branch_at, branch_paths, nest_hall
from soleseat.nests.plans import Branch, places
from soleseat.nests.texts import read_plan
from soleseat.nests.tolls import toll
from soleseat.trees.tree import Tree
from things import no_seats


def plain_toll(plan, goers):
    """Point 67, going by going."""
    paths = places(plan)
    least = most = 0
    at = {path: 0 for path in branch_paths(plan)}
    for goer in goers:
        path = paths[goer]
        least += 3 * (len(path) - 1)
        most += 3 * (len(path) - 1)
        for many in range(len(path)):
            branch, part = branch_at(plan, path[:many]), path[many]
            moved = part != at[path[:many]]
            parts = len(branch.parts)
            low = high = 0
            if branch.manner == "stamps":
                low = high = 2 * (parts - 1)
            elif branch.manner == "tree":
                low = high = 2 * Tree([0] + list(branch.above)).apart(at[path[:many]], part)
            elif branch.manner == "calls" and moved:
                low = high = parts
            elif branch.manner == "turning" and moved:
                low, high = 2, parts
            elif branch.manner == "votes":
                numbers = len(branch.sets[part % len(branch.sets)])
                low, high = 3 * numbers, 6 * numbers
            at[path[:many]] = part
            least += low
            most += high
    return least, most


class Tolls(unittest.TestCase):
    def test_stamps(self):
        for seats, goers, wanted in ((4, [], 0), (4, [2], 6), (4, [0, 0, 3], 18), (1, [0, 0, 0], 0), (2, [1, 0], 4),
                                     (60, [59], 118)):
            self.assertEqual(toll(Branch("stamps", leaves(seats)), goers), (wanted, wanted))

    def test_tree(self):
        plan = Branch("tree", leaves(6), above=[0, 0, 1, 1, 4])
        for goers, wanted in (([], 0), ([0], 0), ([0, 0], 0), ([5], 6), ([5, 5], 6), ([5, 2], 14), ([2, 3, 4], 12),
                              ([1, 0, 1, 0], 8)):
            self.assertEqual(toll(plan, goers), (wanted, wanted))
        self.assertEqual(toll(Branch("tree", leaves(1)), [0, 0]), (0, 0))

    def test_calls(self):
        for seats, goers, wanted in ((5, [], 0), (5, [0], 0), (5, [1], 5), (5, [1, 1], 5), (5, [0, 1, 1, 0], 10),
                                     (5, [4, 3, 2], 15), (1, [0], 0)):
            self.assertEqual(toll(Branch("calls", leaves(seats)), goers), (wanted, wanted))

    def test_turning(self):
        plan = Branch("turning", leaves(5), above=[0, 0, 0, 0])
        for goers, moves in (([], 0), ([0], 0), ([0, 0], 0), ([3], 1), ([3, 3], 1), ([3, 2, 2, 0], 3), ([1, 0, 1], 3)):
            self.assertEqual(toll(plan, goers), (2 * moves, 5 * moves))
        self.assertEqual(toll(Branch("turning", leaves(2), above=[0]), [1, 0]), (4, 4))
        self.assertEqual(toll(Branch("turning", leaves(1)), [0, 0]), (0, 0))

    def test_votes(self):
        plan = Branch("votes", leaves(4), sets=[(0, 1), (1, 2, 3), (0, 1, 2, 3)])
        for goers, numbers in (([], 0), ([0], 2), ([1], 3), ([2], 4), ([3], 2), ([3, 3, 1], 7), ([2, 2], 8)):
            self.assertEqual(toll(plan, goers), (3 * numbers, 6 * numbers))
        self.assertEqual(toll(Branch("votes", leaves(3), sets=[(1,)]), [0, 1, 2]), (9, 18))

    def test_branches_within_one_another(self):
        plan = read_plan("[ calls : o [ stamps : o [ tree 0 : o o ] o ] o ]")
        # Leaf 0 by itself, leaf 3 in three branches.
        self.assertEqual(toll(plan, [0]), (0, 0))
        self.assertEqual(toll(plan, [3]), (15, 15))
        self.assertEqual(toll(plan, [3, 3]), (15 + 6 + 4, 15 + 6 + 4))
        self.assertEqual(toll(plan, [3, 2]), (15 + 6 + 4 + 2, 15 + 6 + 4 + 2))
        # The key of the tree stays where it was while others of the branch go in.
        self.assertEqual(toll(plan, [3, 1, 3]), (15 + (3 + 4) + (6 + 4), 15 + (3 + 4) + (6 + 4)))
        self.assertEqual(toll(plan, [3, 5, 3]), (15 + 3 + (6 + 4 + 3), 15 + 3 + (6 + 4 + 3)))
        self.assertEqual(toll(plan, []), (0, 0))

    def test_random_plans(self):
        chance = random.Random(67)
        for _ in range(300):
            plan = some_plan(chance, 15, 5)
            goers = [chance.randrange(len(plan)) for _ in range(chance.randrange(12))]
            told = toll(plan, goers)
            self.assertEqual(told, plain_toll(plan, goers))
            self.assertIsInstance(told, tuple)

    def test_what_one_going_takes(self):
        """In a still nest, with one asking at a time, turners take between the two."""
        chance = random.Random(68)
        for _ in range(100):
            plan = some_plan(chance, 10, 4)
            hall = nest_hall(plan)
            goers = []
            for _ in range(5):
                goers.append(chance.randrange(len(plan)))
                hall.ask(goers[-1])
                hall.calm()
                least, most = toll(plan, goers)
                self.assertTrue(least <= sum(tally(hall.rows()).values()) <= most)
            self.assertTrue(all(machine.inner.state == "out" for machine in machines_of(hall)))

    def test_no_seat(self):
        plan = read_plan("[ calls : o [ stamps : o o ] ]")
        for thing in no_seats(3):
            for goers in ([thing], [0, thing], [2, thing, -1], [1, 0, thing, thing, 9]):
                with self.assertRaises(NoSeat) as caught:
                    toll(plan, goers)
                self.assertIs(caught.exception.seat, thing)

    def test_what_is_handed_in_is_left_alone(self):
        plan, goers = read_plan("[ calls : o [ stamps : o o ] ]"), [2, 0, 1]
        toll(plan, goers)
        self.assertEqual((str(plan), goers), ("[ calls : o [ stamps : o o ] ]", [2, 0, 1]))


if __name__ == "__main__":
    unittest.main()
