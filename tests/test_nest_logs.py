"""What holds of halls, runs and texts, in nests too."""

import copy
import itertools
import random
import unittest

from driving import machines_of
from plans_of import NestDrive, leaves, some_branch, some_plan
from soleseat.base.errors import BadDeed, NeverAsks, NoLetter, NotIn, NotOut, SoleError
from soleseat.base.letters import is_letter
from soleseat.logs.cuts import Cut
from soleseat.logs.goings import goings
from soleseat.logs.judge import judge
from soleseat.logs.known import past
from soleseat.logs.runs import Run, read_run
from soleseat.logs.weave import laid_ahead
from soleseat.nests.nest import branch_paths, nest_hall
from soleseat.nests.plans import MANNERS, Branch
from soleseat.nests.within import hall_log


def some_drive(seed, steps=10 ** 6):
    chance = random.Random(seed)
    plan = some_plan(chance, 8, 4, MANNERS[seed % 5])
    drive = NestDrive(plan, seed, asks=8)
    drive.go(steps)
    return drive


def all_logs(drive):
    """(log, seats) of a nest and of each hall within."""
    logs = [(drive.hall.rows(), drive.hall.seats)]
    return logs + [(hall_log(drive.plan, drive.hall.rows(), path), drive.hall.seats)
                   for path in branch_paths(drive.plan)]


def deeds_of(hall):
    """All deeds that are not refused."""
    leaves_out = [("ask", seat) for seat in range(hall.seats)
                  if hall.state_of(seat) == "out" and not hasattr(hall.machine_of(seat), "serves")]
    return leaves_out + [("leave", seat) for seat in hall.within()] + [("carry", a, b) for a, b in hall.roads()]


class Logs(unittest.TestCase):
    def test_texts(self):
        for seed in range(60):
            for log, seats in all_logs(some_drive(seed, 60 if seed % 2 else 10 ** 6)):
                run = Run(log, seats=seats)
                self.assertEqual(read_run(str(run)), run)
                self.assertEqual(read_run(str(run)).rows(), log)

    def test_letters(self):
        for seed in range(60):
            for log, _ in all_logs(some_drive(seed)):
                self.assertTrue(all(is_letter(row[3]) for row in log if row[0] in ("put", "came")))

    def test_no_weaving_lets_two_in(self):
        chance = random.Random(17)
        for seed in range(30):
            for log, seats in all_logs(some_drive(seed)):
                run = Run(log, seats=seats)
                if len(goings(run)) < 2:
                    continue
                cut = Cut()
                for row in chance.sample(range(len(run)), 3):
                    cut = cut.joined(past(run, row))
                self.assertIsNone(judge(laid_ahead(run, cut).rows(), seats=seats))

    def test_rows_of_the_deeds_are_the_log(self):
        for seed in range(30):
            plan = some_plan(random.Random(seed), 8, 4)
            told = []
            drive = NestDrive(plan, seed, asks=6)
            for _ in range(100):
                deed = drive.some_deed()
                if deed is not None:
                    told += drive.hall.run([deed])
            self.assertEqual(drive.hall.rows(), told)


class Deeds(unittest.TestCase):
    def test_two_deeds_at_unlike_seats(self):
        looked = 0
        for seed in range(60):
            drive = some_drive(seed, random.Random(seed).randrange(5, 60))
            for one, other in itertools.combinations(deeds_of(drive.hall), 2):
                if one[-1] == other[-1]:
                    continue
                left, right = copy.deepcopy(drive.hall), copy.deepcopy(drive.hall)
                rows = left.run([one]), left.run([other])
                self.assertEqual((right.run([other]), right.run([one])), rows[::-1])
                self.assertEqual(str(left), str(right))
                self.assertEqual(left.under_way(), right.under_way())
                looked += 1
        self.assertGreater(looked, 200)

    def test_refusals_change_nothing(self):
        plan = Branch("calls", [Branch("stamps", leaves(2)), Branch("tree", leaves(2), above=[0])])
        hall = nest_hall(plan)
        hall.run([("ask", 0), ("carry", 0, 1), ("carry", 1, 0), ("carry", 0, 4), ("carry", 4, 0)])
        before = hall.rows(), str(hall), hall.under_way()
        for deed, error in ((("ask", 4), NeverAsks), (("ask", 0), NotOut), (("leave", 4), NotIn), (("leave", 1), NotIn),
                            (("carry", 0, 4), NoLetter), (("ask",), BadDeed), (["ask", 1], BadDeed)):
            self.assertRaises(error, hall.run, [deed])
            self.assertEqual((hall.rows(), str(hall), hall.under_way()), before)
        self.assertEqual(str(hall), "in out out out out out")

    def test_a_run_ends_where_one_is_refused(self):
        plan = Branch("calls", [Branch("stamps", leaves(2)), Branch("tree", leaves(2), above=[0])])
        hall = nest_hall(plan)
        with self.assertRaises(NeverAsks):
            hall.run([("ask", 0), ("ask", 2), ("ask", 5), ("ask", 1)])
        hall.calm()
        self.assertEqual(hall.runs(), [2])
        self.assertEqual(sorted(row[1] for row in hall.rows() if row[0] == "in"), [0, 2])

    def test_calm_does_at_most_so_many(self):
        hall = nest_hall(some_branch(random.Random(1), "calls", leaves(4)))
        for seat in range(4):
            hall.ask(seat)
        many = 0
        while not hall.still():
            hall.calm(most=1)
            many += 1
        other = nest_hall(some_branch(random.Random(1), "calls", leaves(4)))
        for seat in range(4):
            other.ask(seat)
        other.calm(most=many - 1)
        self.assertFalse(other.still())
        other.calm(most=1)
        self.assertTrue(other.still())

    def test_machines_of_a_nest_sit(self):
        hall = nest_hall(Branch("stamps", leaves(2)))
        self.assertEqual([machine.sits for machine in machines_of(hall)], [True, True])
        self.assertTrue(issubclass(NeverAsks, SoleError))


if __name__ == "__main__":
    unittest.main()
