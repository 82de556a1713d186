import random
import unittest

from driving import machines_of
from plans_of import hall_of, leaves, some_branch, some_plan
from soleseat.base.errors import NeverAsks, NoFalls
from soleseat.base.hall import Hall
from soleseat.calls.callers import Caller
from soleseat.nests.errors import NoPath
from soleseat.nests.nest import branch_at, branch_paths, nest_hall
from soleseat.nests.plans import MANNERS, Branch, Leaf, places
from soleseat.nests.porters import Member, Porter
from soleseat.nests.texts import read_plan
from soleseat.stamps.stamper import Stamper
from soleseat.trees.turners import Turner
from soleseat.trees.twigs import Twig
from soleseat.votes.voter import Voter
from things import ODD_THINGS

TEXT = "[ votes 0 1 | 1 2 | 0 2 : o [ tree 0 : [ calls : o o ] o ] [ turning 0 0 : o o [ stamps : o ] ] ]"
KINDS = {"stamps": Stamper, "tree": Twig, "turning": Turner, "votes": Voter, "calls": Caller}
NO_PATHS = [(0,), (3,), (-1,), (1, 1), (1, 2), (1, 0, 0), (1, 0, 2), (2, 0), (2, 2, 0), (2, 2, 0, 0), (True,), (1, False),
            (1.0,), ("1",), (None,), ((1,),), ((),), [], [1], "", "1", None, 0, 1, range(0), (10 ** 60,), (1, -1), (1, 0, -1)]


def values_of(machine):
    """All that is in a machine, by name, machines and desks within it too."""
    found = {}
    for name, value in vars(machine).items():
        found[name] = values_of(value) if hasattr(value, "__dict__") else value
    return found


class Paths(unittest.TestCase):
    def test_branch_at(self):
        plan = read_plan(TEXT)
        self.assertEqual(branch_at(plan, ()), plan)
        for path, text in (((), TEXT), ((1,), "[ tree 0 : [ calls : o o ] o ]"), ((1, 0), "[ calls : o o ]"),
                           ((2,), "[ turning 0 0 : o o [ stamps : o ] ]"), ((2, 2), "[ stamps : o ]")):
            told = branch_at(plan, path)
            self.assertIsInstance(told, Branch)
            self.assertEqual(str(told), text)

    def test_branch_paths(self):
        self.assertEqual(branch_paths(read_plan(TEXT)), [(), (1,), (1, 0), (2,), (2, 2)])
        self.assertEqual(branch_paths(Branch("stamps", leaves(3))), [()])

    def test_random_plans(self):
        chance = random.Random(62)
        for _ in range(100):
            plan = some_plan(chance, 20, 5)
            paths = branch_paths(plan)
            self.assertEqual(len(paths), plan.halls())
            self.assertEqual(sorted(paths), paths)
            words = plan.words()
            starts = [at for at, word in enumerate(words) if word == "["]
            for path, start in zip(paths, starts):
                there = branch_at(plan, path).words()
                self.assertEqual(words[start:start + len(there)], there)

    def test_no_path_of_anything(self):
        plan = read_plan(TEXT)
        odd = [thing for thing in ODD_THINGS if not isinstance(thing, tuple) or len(thing) > 0]
        for path in NO_PATHS + odd + [(1, thing) for thing in ODD_THINGS] + [(thing,) for thing in ODD_THINGS]:
            with self.assertRaises(NoPath) as caught:
                branch_at(plan, path)
            self.assertEqual(list(vars(caught.exception)), ["path"])
            self.assertIs(caught.exception.path, path)


class Nests(unittest.TestCase):
    def test_by_hand(self):
        hall = nest_hall(read_plan(TEXT))
        self.assertIsInstance(hall, Hall)
        self.assertEqual(hall.seats, 11)
        self.assertEqual(places(read_plan(TEXT)),
                         [(0,), (1, 0, 0), (1, 0, 1), (1, 1), (2, 0), (2, 1), (2, 2, 0), (1,), (1, 0), (2,), (2, 2)])
        machines = machines_of(hall)
        self.assertEqual([type(machine) for machine in machines], [Member] * 7 + [Porter] * 4)
        self.assertEqual([machine.porter for machine in machines], [None, 8, 8, 7, 9, 9, 10, None, 7, None, 9])
        self.assertEqual([machine.inner.me for machine in machines], [0, 0, 1, 1, 0, 1, 0, 1, 0, 2, 2])
        self.assertEqual([type(machine.inner) for machine in machines],
                         [Voter, Caller, Caller, Twig, Turner, Turner, Stamper, Voter, Twig, Voter, Turner])
        self.assertEqual([machine.serves for machine in machines[7:]], [None] * 4)

    def test_letters_of_one_going(self):
        hall = nest_hall(read_plan(TEXT))
        self.assertEqual(hall.ask(2), [("ask", 2), ("put", 2, 1, ("ask", 1))])
        self.assertEqual(hall.carry(2, 1), [("came", 2, 1, ("ask", 1)),
                                            ("put", 1, 2, ("key", 0, ((0, 0), (1, 0)), ()))])
        self.assertEqual(hall.carry(1, 2)[1:], [("put", 2, 8, ("please",))])
        # Part 0 of the tree has the key.
        self.assertEqual(hall.carry(2, 8)[1:], [("put", 8, 7, ("please",))])
        # Part 1 wants the votes of parts 1 and 2, which are the seats 7 and 9.
        self.assertEqual(hall.carry(8, 7)[1:], [("put", 7, 7, ("ask", 1, 0)), ("put", 7, 9, ("ask", 1, 0))])
        hall.run([("carry", 7, 7), ("carry", 7, 9), ("carry", 9, 7)])
        self.assertEqual(hall.carry(7, 7)[1:], [("put", 7, 8, ("yours",))])
        self.assertEqual(hall.carry(7, 8)[1:], [("put", 8, 2, ("yours",))])
        self.assertEqual(hall.waiters(), [2])
        self.assertEqual(hall.carry(8, 2)[1:], [("in", 2)])
        self.assertEqual(hall.leave(2), [("out", 2), ("put", 2, 8, ("done",))])
        self.assertEqual(hall.carry(2, 8)[1:], [("put", 8, 7, ("done",))])
        self.assertEqual(hall.carry(8, 7)[1:], [("put", 7, 7, ("done", 1, 0)), ("put", 7, 9, ("done", 1, 0))])
        hall.calm()
        self.assertTrue(hall.still())

    def test_the_order_of_the_seats(self):
        chance = random.Random(63)
        for _ in range(100):
            plan = some_plan(chance, 16, 5)
            hall, paths = nest_hall(plan), places(plan)
            self.assertEqual(hall.seats, len(plan) + plan.halls() - 1)
            for seat, path in enumerate(paths):
                machine = hall.machine_of(seat)
                self.assertIs(type(machine), Member if seat < len(plan) else Porter)
                above = path[:-1]
                self.assertEqual(machine.porter, paths.index(above) if above else None)
                self.assertEqual(machine.inner.me, path[-1])
                self.assertEqual((machine.me, machine.state, machine.inner.state), (seat, "out", "out"))
                branch = branch_at(plan, above)
                self.assertIs(type(machine.inner), KINDS[branch.manner])
                self.assertEqual(values_of(machine.inner), values_of(hall_of(branch).machine_of(path[-1])))

    def test_inner_machines_of_each_manner(self):
        for manner in MANNERS:
            branch = some_branch(random.Random(5), manner, leaves(5))
            hall = nest_hall(branch)
            self.assertEqual([values_of(machine.inner) for machine in machines_of(hall)],
                             [values_of(machine) for machine in machines_of(hall_of(branch))])

    def test_part_0_has_the_key(self):
        for manner in ("tree", "turning"):
            hall = nest_hall(Branch(manner, leaves(4), above=[0, 1, 1]))
            inner = [machine.inner for machine in machines_of(hall)]
            self.assertEqual([machine.has_key() for machine in inner], [True, False, False, False])
            self.assertEqual([getattr(machine, "toward" if manner == "tree" else "up") for machine in inner],
                             [0, 0, 1, 1])
        hall = nest_hall(Branch("calls", leaves(3)))
        self.assertEqual([machine.inner.bears() is None for machine in machines_of(hall)], [False, True, True])

    def test_first_sets(self):
        sets = [(0, 1), (1, 2, 4), (0, 1, 3)]
        hall = nest_hall(Branch("votes", leaves(5), sets=sets))
        self.assertEqual([machine.inner.free_set() for machine in machines_of(hall)], [0, 1, 2, 0, 1])

    def test_leaves_alone_ask(self):
        plan = read_plan(TEXT)
        hall = nest_hall(plan)
        for seat in range(len(plan), hall.seats):
            with self.assertRaises(NeverAsks) as caught:
                hall.ask(seat)
            self.assertEqual(caught.exception.seat, seat)
        for seat in range(len(plan)):
            self.assertEqual(hall.ask(seat)[0], ("ask", seat))

    def test_nobody_falls(self):
        hall = nest_hall(read_plan(TEXT))
        for seat in range(hall.seats):
            self.assertRaises(NoFalls, hall.fall, seat)

    def test_two_nests_of_one_plan(self):
        leaf = Leaf()
        part = Branch("calls", [leaf, leaf])
        plan = Branch("stamps", [part, part])
        one, other = nest_hall(plan), nest_hall(plan)
        before = [values_of(machine) for machine in machines_of(other)]
        one.run([("ask", 0), ("ask", 3)])
        one.calm()
        self.assertEqual([values_of(machine) for machine in machines_of(other)], before)
        self.assertEqual((other.rows(), str(plan)), ([], "[ stamps : [ calls : o o ] [ calls : o o ] ]"))
        # A part that is there twice is two halls, too.
        self.assertEqual(one.machine_of(0).inner.numbers(), [1, 0])
        self.assertEqual(one.machine_of(3).inner.numbers(), [0, 1])

    def test_sixty(self):
        for plan in (Branch("calls", leaves(60)), Branch("stamps", [Branch("stamps", leaves(2))] * 20)):
            hall = nest_hall(plan)
            self.assertEqual(hall.seats, 60)
            hall.run([("ask", seat) for seat in range(len(plan))])
            hall.calm(most=10 ** 6)
            self.assertTrue(hall.still())


if __name__ == "__main__":
    unittest.main()
