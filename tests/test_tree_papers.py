import random
import unittest

from driving import Drive, fallen_of, machines_of
from soleseat.trees.papers import key_place, line_of, walk_up, wish_at
from trees_of import some_ups, turner_hall_of, twig_hall_of, way

WISH, KEY, END_MARK = ("wish",), ("key",), ("gone",)


class KeyStand:
    """No more of a machine than whether it has the key."""

    def __init__(self, has):
        self.has = has

    def has_key(self):
        return self.has


class TwigStand:
    """The values and methods of a twig that the papers look at."""

    def __init__(self, me, toward, queue=(), sent=False):
        self.me = me
        self.toward = toward
        self.queue = queue
        self.sent = sent

    def has_key(self):
        return self.toward == self.me


class TurnerStand:
    """The values and methods of a turner that the papers look at."""

    def __init__(self, me, up, behind=None, keyed=False, state="out"):
        self.me = me
        self.up = up
        self.behind = behind
        self.keyed = keyed
        self.state = state

    def has_key(self):
        return self.keyed


class KeyPlace(unittest.TestCase):
    def test_has(self):
        machines = [KeyStand(False), KeyStand(True), KeyStand(False)]
        self.assertEqual(key_place(machines, []), (1, None))
        self.assertEqual(key_place(machines, [(0, 2, WISH), (2, 0, END_MARK)]), (1, None))

    def test_under_way(self):
        machines = [KeyStand(False) for _ in range(4)]
        self.assertEqual(key_place(machines, [(0, 1, WISH), (0, 2, END_MARK), (3, 1, KEY), (3, 2, WISH)]), (1, 3))
        self.assertEqual(key_place(machines, [(3, 1, ("wish", 2)), (0, 2, KEY)]), (2, 0))

    def test_nowhere(self):
        machines = [KeyStand(False) for _ in range(3)]
        self.assertIsNone(key_place(machines, []))
        self.assertIsNone(key_place(machines, [(0, 1, WISH), (1, 2, ("wish", 0)), (0, 2, END_MARK)]))

    def test_who_fell_with_it(self):
        for make in (twig_hall_of, turner_hall_of):
            hall = make([0, 0, 1], 1, falls=True)
            hall.fall(1)
            self.assertEqual(key_place(machines_of(hall), hall.under_way()), (1, None))

    def test_lost_by_a_fall(self):
        for make in (twig_hall_of, turner_hall_of):
            hall = make([0, 0, 1], 1, falls=True)
            hall.run([("ask", 2), ("carry", 2, 1)])
            self.assertEqual(key_place(machines_of(hall), hall.under_way()), (2, 1))
            hall.fall(2)
            self.assertIsNone(key_place(machines_of(hall), hall.under_way()))


class WishAt(unittest.TestCase):
    def test_sent_is_false(self):
        twigs = [TwigStand(0, 1), TwigStand(1, 1, (0,))]
        self.assertIsNone(wish_at(twigs, [(0, 1, WISH), (1, 0, KEY)], 0))
        self.assertIsNone(wish_at(twigs, [], 1))

    def test_on_the_road(self):
        twigs = [TwigStand(0, 2, (0,), True), TwigStand(1, 2), TwigStand(2, 2)]
        self.assertEqual(wish_at(twigs, [(0, 1, END_MARK), (0, 2, WISH)], 0), ("road", 2))

    def test_on_other_roads(self):
        twigs = [TwigStand(0, 2, (0,), True), TwigStand(1, 2), TwigStand(2, 2)]
        for letters in ([(2, 0, WISH)], [(0, 1, WISH)], [(1, 2, WISH)], [(0, 2, END_MARK)], [(0, 2, KEY)]):
            self.assertIsNone(wish_at(twigs, letters, 0))

    def test_in_the_queue(self):
        twigs = [TwigStand(0, 2, (0,), True), TwigStand(1, 2, (1,), True), TwigStand(2, 2, (3, 1, 2, 0)),
                 TwigStand(3, 2, (3,), True)]
        self.assertEqual([wish_at(twigs, [], seat) for seat in range(4)],
                         [("queue", 2, 3), ("queue", 2, 1), None, ("queue", 2, 0)])

    def test_answered_by_the_key(self):
        twigs = [TwigStand(0, 2, (0,), True), TwigStand(1, 2), TwigStand(2, 0)]
        self.assertEqual(wish_at(twigs, [(1, 2, WISH), (2, 0, KEY), (2, 0, WISH)], 0), ("key", 2))
        self.assertIsNone(wish_at(twigs, [(1, 0, KEY), (0, 2, KEY), (2, 1, KEY)], 0))

    def test_by_hand(self):
        hall = twig_hall_of([0, 0, 1], 0)
        hall.ask(2)
        self.assertEqual(wish_at(machines_of(hall), hall.under_way(), 2), ("road", 1))
        hall.carry(2, 1)
        self.assertEqual(wish_at(machines_of(hall), hall.under_way(), 2), ("queue", 1, 0))
        self.assertEqual(wish_at(machines_of(hall), hall.under_way(), 1), ("road", 0))
        hall.carry(1, 0)
        self.assertEqual(wish_at(machines_of(hall), hall.under_way(), 1), ("key", 0))
        hall.carry(0, 1)
        self.assertEqual(wish_at(machines_of(hall), hall.under_way(), 2), ("key", 1))
        self.assertIsNone(wish_at(machines_of(hall), hall.under_way(), 1))

    def test_lost_by_a_fall(self):
        hall = twig_hall_of([0, 0, 1], 0, falls=True)
        hall.run([("ask", 2), ("fall", 1)])
        self.assertIsNone(wish_at(machines_of(hall), hall.under_way(), 2))
        self.assertTrue(hall.machine_of(2).sent)


class LineOf(unittest.TestCase):
    def test_nowhere(self):
        turners = [TurnerStand(0, 0, behind=1, state="asking"), TurnerStand(1, 0, state="asking")]
        self.assertEqual(line_of(turners, []), [])
        self.assertEqual(line_of(turners, [(1, 0, ("wish", 1)), (0, 1, END_MARK)]), [])

    def test_who_has_it_and_is_out(self):
        turners = [TurnerStand(0, 0, keyed=True), TurnerStand(1, 1, state="asking")]
        self.assertEqual(line_of(turners, [(1, 0, ("wish", 1))]), [])

    def test_who_is_in(self):
        turners = [TurnerStand(0, 3, behind=3, keyed=True, state="in"), TurnerStand(1, 2, state="out"),
                   TurnerStand(2, 2, state="asking"), TurnerStand(3, 2, behind=2, state="asking")]
        self.assertEqual(line_of(turners, []), [0, 3, 2])

    def test_under_way(self):
        turners = [TurnerStand(0, 1), TurnerStand(1, 2, behind=2, state="asking"), TurnerStand(2, 2, state="asking")]
        self.assertEqual(line_of(turners, [(0, 2, END_MARK), (0, 1, KEY)]), [1, 2])


class WalkUp(unittest.TestCase):
    def test_ups_alone(self):
        turners = [TurnerStand(0, 2), TurnerStand(1, 0), TurnerStand(2, 2, keyed=True)]
        self.assertEqual([walk_up(turners, [], seat) for seat in range(3)], [[0, 2], [1, 0, 2], [2]])

    def test_a_wish_under_way(self):
        turners = [TurnerStand(0, 1), TurnerStand(1, 1, keyed=True), TurnerStand(2, 2, state="asking")]
        self.assertEqual(walk_up(turners, [(2, 0, ("wish", 2))], 2), [2, 0, 1])
        # It is the wish of who stands in it, not of who sent it on.
        self.assertEqual(walk_up(turners, [(0, 1, ("wish", 2))], 2), [2, 1])
        self.assertEqual(walk_up(turners, [(2, 0, END_MARK), (1, 0, KEY)], 2), [2])

    def test_from_the_last_of_its_own_line(self):
        turners = [TurnerStand(0, 0, keyed=True), TurnerStand(1, 2, behind=2, state="asking"),
                   TurnerStand(2, 3, behind=3, state="asking"), TurnerStand(3, 3, state="asking")]
        letters = [(1, 0, ("wish", 1))]
        self.assertEqual([walk_up(turners, letters, seat) for seat in range(4)],
                         [[0], [1, 2, 3, 0], [2, 3, 0], [3, 0]])

    def test_several_wishes(self):
        turners = [TurnerStand(0, 0, keyed=True, state="in"), TurnerStand(1, 1, state="asking"),
                   TurnerStand(2, 2, state="asking"), TurnerStand(3, 1)]
        letters = [(2, 1, ("wish", 2)), (1, 0, ("wish", 1))]
        self.assertEqual([walk_up(turners, letters, seat) for seat in range(4)],
                         [[0], [1, 0], [2, 1, 0], [3, 1, 0]])
        self.assertEqual(walk_up(turners, letters[::-1], 3), [3, 1, 0])


class Twigs(unittest.TestCase):
    """What points 27 and 28 tell of twigs, behind each deed."""

    def look(self, hall):
        twigs, letters = machines_of(hall), hall.under_way()
        place, sender = key_place(twigs, letters)
        for seat, twig in enumerate(twigs):
            if seat != place:
                self.assertEqual(twig.toward, way(self.ups, seat, place)[1])
            else:
                self.assertEqual(twig.toward, seat if sender is None else sender)
            told = wish_at(twigs, letters, seat)
            if not twig.has_key():
                self.assertEqual(twig.sent, twig.queue != ())
            self.assertEqual(told is not None, twig.sent)
            if told is not None:
                self.assertEqual(told[1], twig.toward)
                self.words[told[0]] = self.words.get(told[0], 0) + 1
                places = [letters.count((seat, twig.toward, WISH)), twigs[twig.toward].queue.count(seat),
                          letters.count((twig.toward, seat, KEY))]
                self.assertEqual(sorted(places), [0, 0, 1])
                self.assertEqual(("road", "queue", "key")[places.index(1)], told[0])
                if told[0] == "queue":
                    self.assertEqual(twigs[twig.toward].queue[told[2]], seat)

    def test_random_halls(self):
        self.words = {}
        for seed in range(120):
            chance = random.Random(seed)
            self.ups = some_ups(chance, chance.randrange(1, 8))
            hall = twig_hall_of(self.ups, chance.randrange(len(self.ups)))
            Drive(hall, seed, asks=8, look=self.look).go()
        for word in ("road", "queue", "key"):
            self.assertGreater(self.words[word], 100)


class Turners(unittest.TestCase):
    """What points 31 and 32 tell of turners, behind each deed."""

    def look(self, hall):
        turners, letters = machines_of(hall), hall.under_way()
        line = line_of(turners, letters)
        self.assertEqual(len(line), len(set(line)))
        last = line[-1] if line else key_place(turners, letters)[0]
        for seat in range(len(turners)):
            walk = walk_up(turners, letters, seat)
            self.assertEqual((walk[0], walk[-1]), (seat, last))
            self.assertEqual(len(walk), len(set(walk)))
            self.most = max(self.most, len(walk))
        rows = hall.rows()
        if self.lines and line != self.lines[-1]:
            ahead = self.lines[-1]
            left = ahead[1:] if rows[self.many][0] == "out" else ahead
            self.assertEqual(line[:len(left)], left)
        self.many = len(rows)
        self.lines.append(line)
        # Who is in, or is to be in next, is the line's first.
        self.assertEqual(hall.within(), line[:1] if line and turners[line[0]].state == "in" else [])

    def test_random_halls(self):
        self.most = 0
        longest = 0
        for seed in range(120):
            chance = random.Random(seed)
            ups = some_ups(chance, chance.randrange(1, 8))
            self.lines, self.many = [], 0
            hall = turner_hall_of(ups, chance.randrange(len(ups)))
            Drive(hall, seed, asks=8, look=self.look).go()
            longest = max([longest] + [len(line) for line in self.lines])
        self.assertGreater(longest, 3)
        self.assertGreater(self.most, 4)

    def test_ins_as_the_line_tells(self):
        for seed in range(80):
            chance = random.Random(seed)
            ups = some_ups(chance, chance.randrange(2, 8))
            hall = turner_hall_of(ups, chance.randrange(len(ups)))
            drive = Drive(hall, seed, asks=8)
            drive.go(chance.randrange(5, 50))
            line = line_of(machines_of(hall), hall.under_way())
            many = len(hall.rows())
            within = hall.within()
            drive.go()
            ins = within + [row[1] for row in hall.rows()[many:] if row[0] == "in"]
            self.assertEqual(ins[:len(line)], line)


class Falls(unittest.TestCase):
    def test_at_most_one_key_stays(self):
        for seed in range(100):
            chance = random.Random(seed)
            ups = some_ups(chance, chance.randrange(1, 7))
            for make in (twig_hall_of, turner_hall_of):
                hall = make(ups, chance.randrange(len(ups)), falls=True)

                def look(hall):
                    letters = hall.under_way()
                    keys = [(seat, None) for seat, machine in enumerate(machines_of(hall)) if machine.has_key()]
                    keys += [(b, a) for a, b, letter in letters if letter == KEY]
                    self.assertLessEqual(len(keys), 1)
                    self.assertEqual(key_place(machines_of(hall), letters), keys[0] if keys else None)
                    bare = [row for row in letters if row[2] != END_MARK]
                    self.assertEqual(key_place(machines_of(hall), bare), keys[0] if keys else None)

                Drive(hall, seed, falls=2, asks=8, look=look).go()
                self.assertLessEqual(len(fallen_of(hall)), 2)


if __name__ == "__main__":
    unittest.main()
