"""Halls of puppets with plays and deeds of a fixed seed, held against the words of the document."""

import itertools
import random
import unittest

from soleseat.base.errors import NoLetter, SoleError
from soleseat.base.hall import Hall
from soleseat.base.seats import Puppet
from soleseat.logs.judge import judge
from soleseat.logs.rows import is_row, read_row, row_text, seat_of
from soleseat.logs.runs import Run, read_run

LETTERS = [("aa",), ("aa",), ("bb", 1), ("cc", (2, ()), 0)]


def some_plays(chance, seats):
    return [(chance.random() < 0.5,
             [(chance.randrange(seats), chance.choice(LETTERS)) for _ in range(chance.choice((0, 0, 1, 1, 2, 3)))])
            for _ in range(chance.randrange(12))]


def some_deed(chance, seats):
    word = chance.choice(("ask", "leave", "carry", "carry", "carry", "carry", "fall"))
    if word == "fall" and chance.random() < 0.7:
        word = "ask"
    return (word,) + tuple(chance.randrange(seats) for _ in range(2 if word == "carry" else 1))


def all_deeds(seats):
    """All deeds that can be told of so many seats."""
    return ([(word, seat) for word in ("ask", "leave") for seat in range(seats)]
            + [("carry", a, b) for a in range(seats) for b in range(seats)]
            + [("fall", seat) for seat in range(seats)])


def place_of(deed):
    """The seat at which a deed is done."""
    return deed[-1]


class Story:
    """Plays and deeds of a hall, so that it can be made anew as often as needed."""

    def __init__(self, seed):
        chance = random.Random(seed)
        self.chance = chance
        self.seats = chance.randrange(1, 5)
        self.falls = chance.random() < 0.7
        self.plays = [some_plays(chance, self.seats) for _ in range(self.seats)]
        self.done = []
        hall = self.hall()
        for _ in range(60):
            deed = some_deed(chance, self.seats)
            if tried(hall, deed) is not None:
                self.done.append(deed)

    def hall(self):
        hall = Hall([Puppet(me, self.seats, self.plays[me]) for me in range(self.seats)], falls=self.falls)
        hall.run(self.done)
        return hall


def tried(hall, deed):
    """The rows of a deed, or None where it is refused."""
    ahead = all_of(hall)
    try:
        return hall.run([deed])
    except (SoleError, NoLetter):
        assert all_of(hall) == ahead
        return None


def all_of(hall):
    return (hall.rows(), str(hall), hall.under_way(), hall.within(), hall.waiters(), hall.still(),
            [hall.machine_of(seat).unplayed() for seat in range(hall.seats)])


def plain_fault(log, at, seats):
    """The fault of row at, word by word as point 12 tells it."""
    row = log[at]
    if not is_row(row, seats=seats):
        return "shape"
    ahead = log[:at]
    seat = seat_of(row)
    state = plain_state(ahead, seat)
    if state == "fallen":
        return "fallen"
    if (row[0], state) in (("ask", "asking"), ("ask", "in"), ("in", "out"), ("in", "in"), ("out", "out"),
                           ("out", "asking")):
        return "turn"
    if row[0] in ("came", "gone"):
        lying = plain_road(ahead, row[1], row[2])
        if row[0] == "came" and [row[3]] != [ahead[put][3] for put in lying[:1]]:
            return "road"
        if row[0] == "gone" and (("fell", row[1]) not in ahead or lying or row in ahead):
            return "road"
    if row[0] == "in" and any(plain_state(ahead, other) == "in" for other in range(seats) if other != seat):
        return "two"
    return None


def plain_state(ahead, seat):
    words = [row[0] for row in ahead if row[0] in ("ask", "in", "out", "fell") and row[1] == seat]
    if not words:
        return "out"
    return {"ask": "asking", "in": "in", "out": "out", "fell": "fallen"}[words[-1]]


def plain_road(ahead, a, b):
    """The numbers of the puts that lie on a road."""
    puts = [at for at, row in enumerate(ahead) if row[:3] == ("put", a, b)]
    return puts[len([row for row in ahead if row[:3] == ("came", a, b)]):]


def plain_judge(log, seats, crowd):
    for at in range(len(log)):
        fault = plain_fault(log, at, seats)
        if fault is not None and not (crowd and fault == "two"):
            return at, fault
    return None


def plain_straight(log, k):
    """What row k follows straight, word by word as point 13 tells it."""
    row = log[k]
    found = [at for at in range(k) if seat_of(log[at]) == seat_of(row)][-1:]
    if row[0] == "came":
        found.append(plain_road(log[:k], row[1], row[2])[0])
    if row[0] == "gone":
        found.append(log.index(("fell", row[1])))
    return sorted(set(found))


def spoiled(chance, log):
    """The log with some rows moved, lost, come twice or changed."""
    log = list(log)
    for _ in range(chance.randrange(1, 4)):
        if not log:
            break
        at = chance.randrange(len(log))
        what = chance.randrange(4)
        if what == 0:
            del log[at]
        elif what == 1:
            log.insert(chance.randrange(len(log)), log[at])
        elif what == 2:
            log.insert(chance.randrange(len(log)), log.pop(at))
        else:
            row = list(log[at])
            row[chance.randrange(1, min(3, len(row)))] = chance.randrange(6)
            log[at] = tuple(row)
    return log


STORIES = [Story(seed) for seed in range(120)]


class Stories(unittest.TestCase):
    def test_there_is_enough_in_them(self):
        words = [row[0] for story in STORIES for row in story.hall().rows()]
        for word in ("ask", "in", "out", "fell", "put", "came", "gone"):
            self.assertGreater(words.count(word), 50)

    def test_the_log_of_each_hall_is_a_run(self):
        for story in STORIES:
            hall = story.hall()
            log = hall.rows()
            self.assertIsNone(judge(log, seats=hall.seats, crowd=True))
            run = Run(log, seats=hall.seats)
            self.assertEqual(read_run(str(run)), run)
            for row in log:
                self.assertEqual(read_row(row_text(row)), row)

    def test_states_and_roads_as_the_log_tells_them(self):
        for story in STORIES:
            hall = story.hall()
            log = hall.rows()
            for seat in range(hall.seats):
                self.assertEqual(hall.state_of(seat), plain_state(log, seat))
            for a in range(hall.seats):
                for b in range(hall.seats):
                    road = [] if hall.state_of(b) == "fallen" else [log[put][3] for put in plain_road(log, a, b)]
                    if "fallen" == hall.state_of(a) != hall.state_of(b) and ("gone", a, b) not in log:
                        road.append(("gone",))
                    self.assertEqual(hall.letters(a, b), road)

    def test_each_deed_adds_the_rows_that_it_tells(self):
        for story in STORIES[:40]:
            hall = Hall([Puppet(me, story.seats, story.plays[me]) for me in range(story.seats)], falls=story.falls)
            log = []
            for deed in story.done:
                log += hall.run([deed])
                self.assertEqual(hall.rows(), log)
                self.assertEqual({seat_of(row) for row in log[-1:]}, {place_of(deed)})

    def test_calm_ends_still(self):
        for story in STORIES:
            hall = story.hall()
            log = hall.rows()
            log += hall.calm()
            self.assertTrue(hall.still())
            self.assertEqual((hall.under_way(), hall.within()), ([], []))
            self.assertEqual(hall.rows(), log)
            self.assertEqual(hall.runs(), [len(story.done)])

    def test_two_deeds_at_unlike_seats(self):
        pairs = {}
        for story in STORIES:
            deeds = [deed for deed in all_deeds(story.seats) if tried(story.hall(), deed) is not None]
            for one, two in itertools.combinations(deeds, 2):
                if place_of(one) == place_of(two):
                    continue
                first, second = story.hall(), story.hall()
                rows_of_one, rows_of_two = first.run([one]), first.run([two])
                self.assertEqual(second.run([two]), rows_of_two)
                self.assertEqual(second.run([one]), rows_of_one)
                self.assertEqual(all_of(first)[1:], all_of(second)[1:])
                words = one[0] + " " + two[0]
                pairs[words] = pairs.get(words, 0) + 1
        for words in ("ask ask", "ask leave", "ask carry", "ask fall", "leave leave", "leave carry", "leave fall",
                      "carry carry", "carry fall", "fall fall"):
            self.assertGreater(pairs[words], 10, words)


class Logs(unittest.TestCase):
    def test_judged_word_by_word(self):
        found = {}
        for story in STORIES:
            log = story.hall().rows()
            self.assertEqual(judge(log, seats=story.seats), plain_judge(log, story.seats, False))
            for _ in range(8):
                other = spoiled(story.chance, log)
                for crowd in (False, True):
                    told = judge(other, seats=story.seats, crowd=crowd)
                    self.assertEqual(told, plain_judge(other, story.seats, crowd))
                    word = None if told is None else told[1]
                    found[word] = found.get(word, 0) + 1
        for word in (None, "shape", "fallen", "turn", "road", "two"):
            self.assertGreater(found[word], 5, word)

    def test_straight_word_by_word(self):
        for story in STORIES:
            log = story.hall().rows()
            run = Run(log, seats=story.seats)
            for k in range(len(log)):
                self.assertEqual(run.straight(k), plain_straight(log, k))


if __name__ == "__main__":
    unittest.main()
