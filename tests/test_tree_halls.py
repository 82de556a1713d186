"""twigs, twig_hall, turners, turner_hall, and what holds in every run of these halls."""

import random
import unittest

from driving import Drive, machines_of
from soleseat.base.errors import NoFalls, NoSeat
from soleseat.base.hall import Hall, tally
from soleseat.logs.goings import asks, goings, sole
from soleseat.logs.judge import judge
from soleseat.logs.runs import Run
from soleseat.trees.papers import key_place, line_of, walk_up
from soleseat.trees.tree import Tree
from soleseat.trees.turners import Turner, turner_hall, turners
from soleseat.trees.twigs import Twig, twig_hall, twigs
from things import no_seats
from trees_of import second, some_ups

UPS = [0, 0, 0, 1, 1, 4]
WISH, KEY = ("wish",), ("key",)


def twig_state(twig):
    return twig.me, twig.state, twig.toward, twig.queue, twig.sent, twig.has_key()


def turner_state(turner):
    return turner.me, turner.state, turner.up, turner.behind, turner.keyed, turner.has_key()


class Made(unittest.TestCase):
    def test_twigs(self):
        tree = Tree(UPS)
        self.assertEqual([twig_state(twig) for twig in twigs(tree)],
                         [(seat, "out", up, (), False, seat == 0) for seat, up in enumerate(UPS)])
        for key in range(6):
            made = twigs(tree, key=key)
            self.assertTrue(all(type(twig) is Twig and not twig.sits for twig in made))
            self.assertEqual([twig_state(twig) for twig in made],
                             [(seat, "out", second(UPS, seat, key), (), False, seat == key) for seat in range(6)])
        self.assertEqual(len(twigs(Tree([0]))), 1)

    def test_turners(self):
        tree = Tree(UPS)
        self.assertEqual([turner_state(turner) for turner in turners(tree)],
                         [(seat, "out", up, None, seat == 0, seat == 0) for seat, up in enumerate(UPS)])
        for key in range(6):
            made = turners(tree, key=key)
            self.assertTrue(all(type(turner) is Turner and not turner.sits for turner in made))
            self.assertEqual([turner_state(turner) for turner in made],
                             [(seat, "out", second(UPS, seat, key), None, seat == key, seat == key)
                              for seat in range(6)])

    def test_the_key_stands_at_seat_0_where_none_is_told(self):
        tree = Tree([2, 0, 2])
        self.assertEqual([twig.toward for twig in twigs(tree)], [0, 0, 0])
        self.assertEqual([turner.up for turner in turners(tree)], [0, 0, 0])
        for make in (twig_hall, turner_hall):
            self.assertEqual(make(tree).ask(0), [("ask", 0), ("in", 0)])

    def test_halls(self):
        for make, kind in ((twig_hall, Twig), (turner_hall, Turner)):
            hall = make(Tree(UPS), key=4)
            self.assertIsInstance(hall, Hall)
            self.assertEqual([type(machine) for machine in machines_of(hall)], [kind] * 6)
            self.assertEqual([machine.has_key() for machine in machines_of(hall)], [seat == 4 for seat in range(6)])
            self.assertEqual(hall.ask(4), [("ask", 4), ("in", 4)])
            self.assertRaises(NoFalls, hall.fall, 0)
            self.assertEqual(make(Tree(UPS), falls=True).fall(0), [("fell", 0)])

    def test_each_has_machines_of_its_own(self):
        tree = Tree(UPS)
        for make in (twigs, turners):
            one, other = make(tree), make(tree)
            one[0].ask()
            one[3].ask()
            self.assertEqual([other[0].state, other[3].state], ["out", "out"])
        self.assertEqual(tree, Tree(UPS))

    def test_no_seats(self):
        for make in (twigs, turners, twig_hall, turner_hall):
            for thing in no_seats(6):
                with self.assertRaises(NoSeat) as caught:
                    make(Tree(UPS), key=thing)
                self.assertIs(caught.exception.seat, thing)
            self.assertRaises(NoSeat, make, Tree([0]), key=1)


def some_hall(seed, make):
    """A chance tree, where the key stands on it at first, and a hall."""
    chance = random.Random(seed)
    tree = Tree(some_ups(chance, chance.randrange(1, 9)))
    key = chance.randrange(len(tree))
    return tree, key, make(tree, key=key)


def looked_to_the_end(drive):
    """The hall driven on without asks: how many leaves and carries there were."""
    many = {"leave": 0, "carry": 0}
    drive.asks = 0
    while True:
        deed = drive.some_deed()
        if deed is None:
            return many["leave"], many["carry"]
        many[deed[0]] += 1
        drive.do(deed)


class BothManners(unittest.TestCase):
    def test_sole(self):
        self.goings = 0
        for seed in range(120):
            for make in (twig_hall, turner_hall):
                tree, key, hall = some_hall(seed, make)
                Drive(hall, seed, asks=12).go()
                run = Run(hall.rows(), seats=len(tree))
                self.assertIsNone(judge(hall.rows(), seats=len(tree)))
                self.assertEqual(sole(run)[0], "sole")
                self.assertTrue(hall.still())
                self.assertEqual([len(goings(run)), hall.waiters()], [len(asks(run)), []])
                self.assertEqual([machine.has_key() for machine in machines_of(hall)].count(True), 1)
                self.goings += len(goings(run))
        self.assertGreater(self.goings, 2000)

    def test_falls(self):
        waits = 0
        for seed in range(150):
            for make in (twig_hall, turner_hall):
                chance = random.Random(seed)
                tree = Tree(some_ups(chance, chance.randrange(2, 8)))
                hall = make(tree, key=chance.randrange(len(tree)), falls=True)
                Drive(hall, seed, falls=chance.randrange(1, 4), asks=12, look=self.look).go()
                run = Run(hall.rows(), seats=len(tree))
                self.assertIsNone(judge(hall.rows(), seats=len(tree)))
                self.assertEqual(sole(run)[0], "sole")
                waits += len(hall.waiters()) > 0
        self.assertGreater(waits, 20)

    def look(self, hall):
        keys = sum(machine.has_key() for machine in machines_of(hall))
        self.assertLessEqual(keys + len([row for row in hall.under_way() if row[2] == KEY]), 1)
        self.assertLessEqual(len(hall.within()), 1)

    def test_calm(self):
        for make in (twig_hall, turner_hall):
            hall = make(Tree([0] + list(range(59))), key=30)
            for seat in range(60):
                hall.ask(seat)
            hall.calm()
            self.assertTrue(hall.still())
            self.assertEqual(len(goings(Run(hall.rows()))), 60)


class TwigRuns(unittest.TestCase):
    def test_counted_letters_behind_each_deed(self):
        for seed in range(60):
            tree, key, hall = some_hall(seed, twig_hall)
            Drive(hall, seed, asks=10, look=lambda told: self.counted(tree, key, told)).go()

    def counted(self, tree, key, hall):
        rows, steps, at = hall.rows(), 0, key
        place = key_place(machines_of(hall), hall.under_way())[0]
        for seat in [row[1] for row in rows if row[0] == "in"] + [place]:
            steps += tree.apart(at, seat)
            at = seat
        self.assertEqual(tally(rows).get("key", 0), steps)
        heard = len([row for row in rows if row[0] == "came" and row[3] == WISH])
        sent = len([twig for twig in machines_of(hall) if twig.sent])
        keys = len([row for row in rows if row[0] == "came" and row[3] == KEY])
        under_way = len([row for row in hall.under_way() if row[2] == WISH])
        # As many wishes were put as keys were heard and seats have sent True.
        self.assertEqual(heard + under_way, keys + sent)

    def test_each_state_ends(self):
        deepest = 0
        for seed in range(150):
            tree, _, hall = some_hall(seed, twig_hall)
            drive = Drive(hall, seed, asks=10)
            drive.go(random.Random(seed).randrange(40))
            many, under_way, waiters = len(hall.rows()), len(hall.under_way()), hall.waiters()
            leaves, carries = looked_to_the_end(drive)
            self.assertTrue(hall.still())
            self.assertLessEqual(leaves, len(waiters) + 1)
            self.assertLessEqual(carries, under_way + 2 * len(waiters) * tree.apart(*tree.farthest()))
            self.assertEqual(sorted(row[1] for row in hall.rows()[many:] if row[0] == "in"), waiters)
            deepest = max(deepest, len(waiters))
        self.assertGreater(deepest, 4)

    def test_any_order_of_carries_between_asks_and_leaves(self):
        most = 0
        for seed in range(80):
            deeds = random.Random(seed)
            tree, key, hall = some_hall(seed, twig_hall)
            other = twig_hall(tree, key=key)
            for step in range(14):
                deed = self.asked_or_left(deeds, hall)
                for told, order in ((hall, random.Random(step)), (other, random.Random(seed + 1000))):
                    told.run([deed])
                    while told.roads():
                        told.carry(*order.choice(told.roads()))
                self.assertEqual([twig_state(twig) for twig in machines_of(hall)],
                                 [twig_state(twig) for twig in machines_of(other)])
            rows = hall.rows()
            for seat, ask, came_in, _ in asks(Run(rows, seats=len(tree))):
                ins = [row[1] for row in rows[ask:came_in] if row[0] == "in" and row[1] != seat]
                self.assertEqual(len(ins), len(set(ins)))
                most = max(most, len(ins))
        self.assertGreater(most, 3)

    def asked_or_left(self, chance, hall):
        out = [seat for seat in range(len(hall)) if hall.state_of(seat) == "out"]
        if out and (not hall.within() or chance.random() < 0.6):
            return "ask", chance.choice(out)
        return "leave", hall.within()[0]


class TurnerRuns(unittest.TestCase):
    def test_each_wish_is_put_by_each_seat_at_most_once(self):
        longest = 0
        for seed in range(150):
            tree, _, hall = some_hall(seed, turner_hall)
            Drive(hall, seed, asks=12).go()
            rows = hall.rows()
            puts = {}
            for at, row in enumerate(rows):
                if row[0] == "ask":
                    puts[row[1]] = []
                if row[0] == "put" and row[3][0] == "wish":
                    puts[row[3][1]].append(row[1])
                    self.assertEqual(len(puts[row[3][1]]), len(set(puts[row[3][1]])))
                    self.assertLess(len(puts[row[3][1]]), len(tree))
                    longest = max(longest, len(puts[row[3][1]]))
        self.assertGreater(longest, 3)

    def test_each_state_ends(self):
        deepest = 0
        for seed in range(150):
            tree, _, hall = some_hall(seed, turner_hall)
            drive = Drive(hall, seed, asks=10)
            drive.go(random.Random(seed).randrange(40))
            many, waiters = len(hall.rows()), hall.waiters()
            wishes = len([row for row in hall.under_way() if row[2][0] == "wish"])
            leaves, carries = looked_to_the_end(drive)
            self.assertTrue(hall.still())
            self.assertLessEqual(leaves, len(waiters) + 1)
            self.assertLessEqual(carries, (len(tree) - 1) * wishes + len(waiters))
            self.assertEqual(sorted(row[1] for row in hall.rows()[many:] if row[0] == "in"), waiters)
            deepest = max(deepest, len(waiters))
        self.assertGreater(deepest, 4)


class AnyOrder:
    """Turners whose letters come in any order, those of one road, too."""

    def __init__(self, seed):
        self.chance = random.Random(seed)
        self.tree = Tree(some_ups(self.chance, self.chance.randrange(1, 8)))
        self.machines = turners(self.tree, key=self.chance.randrange(len(self.tree)))
        self.under_way = []
        self.ins = []
        self.wishes = {}
        self.crossed = 0
        self.many = {"leave": 0, "carry": 0}

    def step(self, asks):
        """A chance deed; whether there was one."""
        out = [machine for machine in self.machines if machine.state == "out"]
        within = [machine for machine in self.machines if machine.state == "in"]
        ways = []
        if asks and out:
            ways.append(lambda: self.ask(self.chance.choice(out)))
        if within:
            ways.append(lambda: self.leave(within[0]))
        if self.under_way:
            ways += [lambda: self.carry(self.chance.randrange(len(self.under_way)))] * 3
        if not ways:
            return False
        self.chance.choice(ways)()
        return True

    def ask(self, machine):
        self.wishes[machine.me] = []
        self.sent(machine, machine.ask(), "out")

    def leave(self, machine):
        self.many["leave"] += 1
        self.sent(machine, machine.leave(), "in")

    def carry(self, place):
        self.many["carry"] += 1
        a, b, letter = self.under_way.pop(place)
        self.crossed += (a, b) in [row[:2] for row in self.under_way[:place]]
        was = self.machines[b].state
        self.sent(self.machines[b], self.machines[b].hear(a, letter), was)

    def sent(self, machine, sends, was):
        for to, letter in sends:
            self.under_way.append((machine.me, to, letter))
            if letter[0] == "wish":
                self.wishes[letter[1]].append(machine.me)
        if was != "in" and machine.state == "in":
            self.ins.append(machine.me)

    def waiters(self):
        return [machine.me for machine in self.machines if machine.state == "asking"]


class TurnersInAnyOrder(unittest.TestCase):
    def look(self, told):
        """Points 31 and 32, behind a deed."""
        keys = [machine.me for machine in told.machines if machine.has_key()]
        keys += [b for _, b, letter in told.under_way if letter == KEY]
        self.assertEqual(len(keys), 1)
        self.assertLessEqual(len([machine for machine in told.machines if machine.state == "in"]), 1)
        line = line_of(told.machines, told.under_way)
        self.assertEqual(len(line), len(set(line)))
        last = line[-1] if line else keys[0]
        for seat in range(len(told.machines)):
            walk = walk_up(told.machines, told.under_way, seat)
            self.assertEqual((walk[0], walk[-1], len(walk)), (seat, last, len(set(walk))))
        for putters in told.wishes.values():
            self.assertEqual(len(putters), len(set(putters)))
            self.assertLess(len(putters), len(told.tree))
        return line

    def test_runs(self):
        crossed = longest = 0
        for seed in range(200):
            told = AnyOrder(seed)
            line, expected = [], []
            for _ in range(60):
                ahead = line
                leaves = told.many["leave"]
                told.step(True)
                line = self.look(told)
                left = ahead[1:] if told.many["leave"] > leaves else ahead
                self.assertEqual(line[:len(left)], left)
                expected += line[len(left):]
                longest = max(longest, len(line))
            # They go in in the order in which the line gained them.
            self.assertEqual(told.ins, expected[:len(told.ins)])
            crossed += told.crossed
        self.assertGreater(crossed, 100)
        self.assertGreater(longest, 4)

    def test_each_state_ends(self):
        for seed in range(200):
            told = AnyOrder(seed)
            for _ in range(seed % 40):
                told.step(True)
            waiters, many = told.waiters(), len(told.ins)
            wishes = len([row for row in told.under_way if row[2][0] == "wish"])
            told.many = {"leave": 0, "carry": 0}
            while told.step(False):
                self.look(told)
            self.assertEqual(told.under_way, [])
            self.assertEqual(sorted(told.ins[many:]), waiters)
            self.assertEqual(told.waiters(), [])
            self.assertLessEqual(told.many["leave"], len(waiters) + 1)
            self.assertLessEqual(told.many["carry"], (len(told.tree) - 1) * wishes + len(waiters))


if __name__ == "__main__":
    unittest.main()
