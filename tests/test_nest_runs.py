"""Nests of all manners within one another, driven by deeds of a fixed seed, and the logs of the halls within."""

import random
import unittest

from driving import machines_of
from plans_of import NestDrive, hall_of, leaves, some_branch, some_plan
from soleseat.base.hall import tally
from soleseat.logs.goings import asks, goings, sole
from soleseat.logs.judge import judge
from soleseat.logs.runs import Run
from soleseat.nests.errors import NoPath
from soleseat.nests.nest import branch_at, branch_paths, nest_hall
from soleseat.nests.plans import MANNERS, Branch, places
from soleseat.nests.texts import read_plan
from soleseat.nests.tolls import toll
from soleseat.nests.within import hall_log
from things import ODD_THINGS

PLEASE, YOURS, DONE = ("please",), ("yours",), ("done",)


class Story:
    def __init__(self, seed, plan, asks=12):
        self.plan = plan
        self.most_in = 0
        self.drive = NestDrive(plan, seed, asks=asks, look=self.look)
        self.hall = self.drive.hall

    def look(self, hall):
        self.most_in = max(self.most_in, len(hall.within()))

    def go(self, steps=10 ** 6):
        self.drive.go(steps)
        self.log = self.hall.rows()
        self.run = Run(self.log, seats=self.hall.seats)
        return self


def some_story(seed, steps=10 ** 6):
    chance = random.Random(seed)
    plan = some_plan(chance, chance.choice((3, 8, 14)), chance.randrange(1, 7), MANNERS[seed % 5])
    return Story(seed, plan, chance.randrange(2, 20)).go(steps)


STILL = [some_story(seed) for seed in range(250)]
CUT_OFF = [some_story(seed, random.Random(seed).randrange(5, 80)) for seed in range(250, 350)]


class Nests(unittest.TestCase):
    def test_never_two_in_and_sole(self):
        for story in STILL + CUT_OFF:
            self.assertLessEqual(story.most_in, 1)
            self.assertIsNone(judge(story.log, seats=story.hall.seats))
            self.assertEqual(sole(story.run)[0], "sole")
        self.assertGreater(sum(len(goings(story.run)) for story in STILL), 1000)

    def test_nobody_asks_in_a_still_nest(self):
        for story in STILL:
            self.assertTrue(story.hall.still())
            self.assertEqual(story.hall.waiters(), [])
            self.assertEqual(len(asks(story.run)), len(goings(story.run)))
            for machine in machines_of(story.hall):
                self.assertEqual((machine.state, machine.inner.state), ("out", "out"))
                self.assertIsNone(getattr(machine, "serves", None))

    def test_calm(self):
        for seed in range(40):
            plan = some_plan(random.Random(seed), 14, 5)
            hall = nest_hall(plan)
            hall.run([("ask", seat) for seat in range(len(plan))])
            hall.calm()
            self.assertTrue(hall.still())
            self.assertEqual(sorted(row[1] for row in hall.rows() if row[0] == "in"), list(range(len(plan))))

    def test_what_goes_between_which_seats(self):
        """Point 62: the manner's letters between the parts' seats; please, yours, done between these and the porter."""
        words = set()
        for story in STILL:
            paths = places(story.plan)
            for row in story.log:
                if row[0] != "put":
                    continue
                a, b = paths[row[1]], paths[row[2]]
                if a[:-1] == b[:-1]:
                    self.assertNotIn(row[3], (PLEASE, YOURS, DONE))
                    continue
                words.add(row[3])
                if row[3] == YOURS:
                    self.assertEqual(b[:-1], a)
                else:
                    self.assertIn(row[3], (PLEASE, DONE))
                    self.assertEqual(a[:-1], b)
                self.assertGreaterEqual(min(row[1:3]), 0)
                self.assertGreaterEqual(row[1] if row[3] == YOURS else row[2], len(story.plan))
        self.assertEqual(words, {PLEASE, YOURS, DONE})

    def test_never_do_two_wait(self):
        """A porter hears at most one please beside that of the one that it serves."""
        waited = 0
        for story in STILL + CUT_OFF:
            open_ones = {}
            for row in story.log:
                if row[0] == "came" and row[3] == PLEASE:
                    open_ones[row[2]] = open_ones.get(row[2], 0) + 1
                    self.assertLessEqual(open_ones[row[2]], 2)
                    waited += open_ones[row[2]] == 2
                if row[0] == "came" and row[3] == DONE:
                    open_ones[row[2]] -= 1
                    self.assertGreaterEqual(open_ones[row[2]], 0)
        self.assertGreater(waited, 50)


def in_order(rows):
    """The rows of two deeds of a seat, out and ask, as one deed: that ask directly behind that out."""
    first = [row for row in rows if row[0] in ("out", "ask")]
    return first + [row for row in rows if row[0] == "put"] + [row for row in rows if row[0] == "in"]


class LogsWithin(unittest.TestCase):
    def look(self, story, path):
        """The log of a hall within: a run, sole, and that of a hall of the branch's manner. It is told back."""
        branch = branch_at(story.plan, path)
        log = hall_log(story.plan, story.log, path)
        seats = len(branch.parts)
        self.assertIsNone(judge(log, seats=seats))
        self.assertEqual(sole(Run(log, seats=seats))[0], "sole")
        hall = hall_of(branch)
        at = 0
        while at < len(log):
            rows = self.done(hall, log, at)
            self.assertEqual(log[at:at + len(rows)], rows)
            at += len(rows)
        for part, machine in self.inner_machines(story, path, seats):
            self.assertEqual(machine.state, hall.machine_of(part).state)
        return hall, log

    def done(self, hall, log, at):
        """The rows of the deed that stands at a place of the log, done in the hall."""
        row = log[at]
        if row[0] == "ask":
            return hall.ask(row[1])
        if row[0] == "came":
            return hall.carry(row[1], row[2])
        self.assertEqual(row[0], "out")
        rows = hall.leave(row[1])
        if log[at + 1:at + 2] == [("ask", row[1])]:
            # A leaf that asks anew does so behind its letters of leaving, if there are any.
            behind = log[at:at + len(rows) + 1]
            if len(rows) > 1 or behind != rows + [("ask", row[1])]:
                rows = in_order(rows + hall.ask(row[1]))
        return rows

    def inner_machines(self, story, path, seats):
        paths = places(story.plan)
        return [(part, story.hall.machine_of(paths.index(path + (part,))).inner) for part in range(seats)]

    def test_each_hall_within(self):
        found = {}
        for story in STILL + CUT_OFF:
            for path in branch_paths(story.plan):
                hall, log = self.look(story, path)
                manner = branch_at(story.plan, path).manner
                goes = len([row for row in log if row[0] == "in"])
                found[manner, path == ()] = found.get((manner, path == ()), 0) + goes
        for manner in MANNERS:
            for whole in (True, False):
                self.assertGreater(found[manner, whole], 100)

    def test_nobody_asks_in_those_of_a_still_nest(self):
        for story in STILL:
            for path in branch_paths(story.plan):
                hall, log = self.look(story, path)
                self.assertTrue(hall.still())
                self.assertEqual(hall.waiters(), [])
                run = Run(log, seats=len(hall))
                self.assertEqual(len(asks(run)), len(goings(run)))

    def test_goings_of_the_parts(self):
        """In a still nest each going of a leaf is one of each branch that the leaf is in, in the same order."""
        for story in STILL:
            paths = places(story.plan)
            goers = [paths[going[0]] for going in goings(story.run)]
            for path in branch_paths(story.plan):
                many = len(path)
                wanted = [goer[many] for goer in goers if goer[:many] == path]
                log = hall_log(story.plan, story.log, path)
                self.assertEqual([row[1] for row in log if row[0] == "in"], wanted)

    def test_all_letters_of_manners_are_in_one_of_them(self):
        for story in STILL + CUT_OFF:
            many = 0
            for path in branch_paths(story.plan):
                many += len([row for row in hall_log(story.plan, story.log, path) if row[0] in ("put", "came")])
            rows = [row for row in story.log if row[0] in ("put", "came") and row[3] not in (PLEASE, YOURS, DONE)]
            self.assertEqual(many, len(rows))

    def test_asks_and_outs_of_porters(self):
        plan = read_plan("[ stamps : o [ calls : o o ] ]")
        # The leaves 0, 1 and 2, and the porter 3.
        log = [("ask", 1), ("put", 1, 3, PLEASE), ("came", 1, 3, PLEASE), ("put", 3, 0, ("ask", 1)),
               ("came", 3, 0, ("ask", 1)), ("put", 0, 3, ("yes", 1)), ("came", 0, 3, ("yes", 1)),
               ("put", 3, 1, YOURS), ("came", 3, 1, YOURS), ("in", 1), ("ask", 0), ("put", 0, 3, ("ask", 2)),
               ("came", 0, 3, ("ask", 2)), ("ask", 2), ("put", 2, 1, ("ask", 1)), ("came", 2, 1, ("ask", 1)),
               ("out", 1), ("put", 1, 3, DONE), ("put", 1, 2, ("key", 0, ((0, 1), (1, 0)), ())),
               ("came", 1, 2, ("key", 0, ((0, 1), (1, 0)), ())), ("put", 2, 3, PLEASE), ("came", 2, 3, PLEASE),
               ("came", 1, 3, DONE), ("put", 3, 0, ("yes", 2)), ("put", 3, 0, ("ask", 3)),
               ("came", 3, 0, ("yes", 2)), ("in", 0), ("out", 0)]
        deeds = {"ask": "ask", "out": "leave", "came": "carry"}
        hall = nest_hall(plan)
        hall.run([(deeds[row[0]],) + row[1:3] for row in log if row[0] in deeds])
        # Letters of the road from 1 to 3 come in their order: the done of seat 1, and the please of seat 2 ahead of it.
        self.assertEqual(hall.rows(), log)
        self.assertEqual(hall_log(plan, log, ()), [
            ("ask", 1), ("put", 1, 0, ("ask", 1)), ("came", 1, 0, ("ask", 1)), ("put", 0, 1, ("yes", 1)),
            ("came", 0, 1, ("yes", 1)), ("in", 1), ("ask", 0), ("put", 0, 1, ("ask", 2)),
            ("came", 0, 1, ("ask", 2)), ("out", 1), ("ask", 1), ("put", 1, 0, ("yes", 2)), ("put", 1, 0, ("ask", 3)),
            ("came", 1, 0, ("yes", 2)), ("in", 0), ("out", 0)])
        self.assertEqual(hall_log(plan, log, (1,)), [
            ("ask", 0), ("in", 0), ("ask", 1), ("put", 1, 0, ("ask", 1)), ("came", 1, 0, ("ask", 1)), ("out", 0),
            ("put", 0, 1, ("key", 0, ((0, 1), (1, 0)), ())), ("came", 0, 1, ("key", 0, ((0, 1), (1, 0)), ())),
            ("in", 1)])
        for many in range(len(log)):
            for path in ((), (1,)):
                part = hall_log(plan, log[:many], path)
                self.assertEqual(part, hall_log(plan, log, path)[:len(part)])

    def test_a_branch_of_leaves_alone(self):
        for manner in MANNERS:
            plan = some_branch(random.Random(3), manner, leaves(4))
            story = Story(7, plan).go()
            self.assertEqual(hall_log(plan, story.log, ()), story.log)
            self.assertEqual(hall_log(Branch("calls", [plan]), [], (0,)), [])

    def test_no_path(self):
        plan = read_plan("[ stamps : o [ calls : o o ] ]")
        odd = [thing for thing in ODD_THINGS if not isinstance(thing, tuple) or len(thing) > 0]
        for path in [(0,), (2,), (1, 0), (1, 1, 0), (-1,), (True,), [1], [], (1.0,)] + odd:
            with self.assertRaises(NoPath) as caught:
                hall_log(plan, [], path)
            self.assertIs(caught.exception.path, path)

    def test_what_is_told_is_the_askers_own(self):
        story = STILL[0]
        log = list(story.log)
        hall_log(story.plan, log, ()).clear()
        self.assertEqual(log, story.log)


class Tolls(unittest.TestCase):
    def test_still_runs(self):
        least_found = most_found = 0
        for story in STILL:
            goers = [going[0] for going in goings(story.run)]
            least, most = toll(story.plan, goers)
            many = sum(tally(story.log).values())
            self.assertLessEqual(least, many)
            self.assertLessEqual(many, most)
            least_found += many == least < most
            most_found += many == most > least
        self.assertGreater(least_found, 5)

    def test_one_behind_the_other(self):
        """Where nobody asks while another one is in, votes and turners too take as few letters as can be."""
        for seed in range(60):
            chance = random.Random(seed)
            plan = some_plan(chance, 10, 4, MANNERS[seed % 5])
            if any(branch_at(plan, path).manner == "turning" for path in branch_paths(plan)):
                continue
            hall = nest_hall(plan)
            goers = [chance.randrange(len(plan)) for _ in range(6)]
            for goer in goers:
                hall.ask(goer)
                hall.calm()
            self.assertEqual(sum(tally(hall.rows()).values()), toll(plan, goers)[0])


if __name__ == "__main__":
    unittest.main()
