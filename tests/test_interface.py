"""The names, arguments and places that the interface of the document tells."""

import importlib
import inspect
import unittest

# By file: each def and class with its arguments, a star ahead of those that go by name alone; each class's methods.
DEFS = {
    "base.letters": {"is_letter": "thing", "letter_fault": "thing"},
    "base.hall": {"tally": "rows"},
    "logs.rows": {"is_row": "thing, *, seats=60", "seat_of": "row", "row_text": "row", "read_row": "line"},
    "logs.judge": {"judge": "log, *, seats=60, crowd=False"},
    "logs.runs": {"read_run": "text"},
    "logs.known": {"past": "run, j", "known": "run, i, j", "chain": "run, i, j", "marks": "run", "closed": "run, cut"},
    "logs.weave": {"woven": "run, order", "laid_ahead": "run, cut"},
    "logs.goings": {"asks": "run", "goings": "run", "sole": "run", "passed": "run"},
    "stamps.halls": {"stampers": "seats, *, counts=()", "stamp_hall": "seats, *, counts=(), falls=False"},
    "stamps.papers": {"cases": "stampers, letters, *, fallen=()", "coming": "stampers, *, fallen=()"},
    "trees.papers": {"key_place": "machines, letters", "wish_at": "twigs, letters, seat",
                     "line_of": "turners, letters", "walk_up": "turners, letters, seat"},
    "trees.twigs": {"twigs": "tree, *, key=0", "twig_hall": "tree, *, key=0, falls=False"},
    "trees.turners": {"turners": "tree, *, key=0", "turner_hall": "tree, *, key=0, falls=False"},
    "sets.forms": {"fault": "seats, sets", "looked": "seats, sets", "least_ones": "seats, sets"},
    "sets.planes": {"seats_of": "p", "lies": "p, seat, number", "set_of": "p, number", "shared": "p, one, other",
                    "holding": "p, one, other", "free": "p, fallen", "plane": "p"},
    "sets.patterns": {"grid": "rows, columns", "wall_sets": "widths, *, most=200"},
    "sets.joins": {"joined": "seats, sets, *, at, by_seats, by"},
    "sets.meeting": {"meeting": "seats, sets"},
    "sets.better": {"lacking": "seats, sets", "bettered": "seats, sets"},
    "sets.bars": {"barred": "seats, sets, fallen", "least_bar": "seats, sets"},
    "votes.halls": {"vote_hall": "seats, sets, *, firsts=None, counts=(), falls=False",
                    "break_run": "seats, sets, *, firsts=None"},
    "calls.callers": {"callers": "seats, *, first=0"},
    "calls.halls": {"call_hall": "seats, *, first=0, falls=False"},
    "calls.papers": {"where_key": "callers, letters, *, fallen=()", "coming": "callers, letters, *, fallen=()"},
    "nests.plans": {"places": "plan"},
    "nests.texts": {"read_plan": "text"},
    "nests.nest": {"branch_at": "plan, path", "branch_paths": "plan", "nest_hall": "plan"},
    "nests.within": {"hall_log": "plan, log, path"},
    "nests.tolls": {"toll": "plan, goers"},
}
PLAN = {"words": "", "deep": "", "halls": "", "__len__": "", "__eq__": "other", "__str__": ""}
MACHINE = {"ask": "", "leave": "", "hear": "sender, letter", "gone": "seat"}
CLASSES = {
    "base.post": {"Post": ("seats", {
        "put": "a, b, letter", "carry": "a, b", "fall": "seat", "letters": "a, b", "roads": "", "under_way": "",
        "__len__": "", "__eq__": "other", "__str__": ""})},
    "base.seats": {
        "Seat": ("me", MACHINE),
        "Puppet": ("me, seats, plays", {"unplayed": ""} | MACHINE)},
    "base.hall": {"Hall": ("machines, *, falls=False, askers=None", {
        "ask": "seat", "leave": "seat", "carry": "a, b", "fall": "seat", "run": "deeds", "calm": "*, most=10000",
        "runs": "", "rows": "", "state_of": "seat", "within": "", "waiters": "", "letters": "a, b", "roads": "",
        "under_way": "", "still": "", "machine_of": "seat", "__len__": "", "__str__": ""})},
    "logs.runs": {"Run": ("log, *, seats=60", {
        "rows": "", "straight": "k", "__len__": "", "__eq__": "other", "__str__": ""})},
    "logs.cuts": {"Cut": ("rows=()", {
        "rows": "", "has": "row", "joined": "other", "shared": "other", "__len__": "", "__eq__": "other",
        "__str__": ""})},
    "stamps.stamper": {"Stamper": ("me, seats, *, count=0", {"awaits": "", "holds": "", "told_gone": ""} | MACHINE)},
    "votes.desk": {"Desk": ("", {
        "take_ask": "stamp", "take_given": "stamp", "take_done": "stamp", "take_gone": "seat", "__len__": ""})},
    "votes.voter": {"Voter": ("me, sets, *, first=None, count=0", {"free_set": ""} | MACHINE)},
    "calls.callers": {"Caller": ("me, seats, *, first=0", {
        "bears": "", "roster": "", "numbers": "", "awaits": ""} | MACHINE)},
    "trees.twigs": {"KeySeat": ("me", {"has_key": ""}), "Twig": ("me, toward", {"has_key": ""} | MACHINE)},
    "trees.turners": {"Turner": ("me, up", {"has_key": ""} | MACHINE)},
    "trees.tree": {"Tree": ("ups", {
        "told_ups": "", "beside": "seat", "way": "a, b", "apart": "a, b", "second": "a, b", "meeting": "a, b, c",
        "farthest": "", "hung": "seat", "__len__": "", "__eq__": "other", "__str__": ""})},
    "nests.plans": {"Leaf": ("", PLAN), "Branch": ("manner, parts, *, above=(), sets=()", PLAN)},
    "nests.porters": {"Member": ("me, inner, mates, porter", MACHINE), "Porter": ("me, inner, mates, porter", MACHINE)},
}
VALUES = {"base.post": {"SEATS": 60}, "base.hall": {"CALM": 10000}, "logs.rows": {"SEATS": 60},
          "stamps.stamper": {"FIRST": 0}, "trees.tree": {"FIRST": 0}, "sets.forms": {"SETS": 200, "FEW": 9},
          "calls.callers": {"FIRST": 0},
          "nests.plans": {"MANNERS": ("stamps", "tree", "turning", "votes", "calls"), "DEEPEST": 6, "MOST": 60}}


def arguments(told):
    return str(inspect.signature(told))[1:-1]


def file_of(name):
    return importlib.import_module("soleseat." + name)


class Interface(unittest.TestCase):
    def test_defs(self):
        for name, defs in DEFS.items():
            for told, wanted in defs.items():
                made = vars(file_of(name))[told]
                self.assertEqual(made.__module__, "soleseat." + name)
                self.assertEqual(arguments(made), wanted, told)

    def test_classes(self):
        for name, classes in CLASSES.items():
            for told, (wanted, methods) in classes.items():
                made = vars(file_of(name))[told]
                self.assertEqual(made.__module__, "soleseat." + name)
                self.assertEqual(arguments(made), wanted, told)
                for method, wanted_there in methods.items():
                    self.assertIn(method, vars(made))
                    there = arguments(vars(made)[method])
                    self.assertEqual(there, ", ".join(["self"] + [wanted_there] * (wanted_there != "")), method)

    def test_values(self):
        for name, values in VALUES.items():
            for told, wanted in values.items():
                self.assertEqual(vars(file_of(name))[told], wanted)


if __name__ == "__main__":
    unittest.main()
