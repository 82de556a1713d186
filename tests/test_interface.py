"""The names, arguments and places that the interface of the document tells."""

import importlib
import inspect
import unittest

# By file: each def and class with its arguments, a star ahead of those that go by name alone; each class's methods.
DEFS = {
    "base.letters": {"is_letter": "thing", "letter_fault": "thing"},
    "base.hall": {"tally": "rows"},
    "logs.rows": {"is_row": "thing, *, seats=60", "seat_of": "row", "row_text": "row", "read_row": "line"},
    "logs.judge": {"judge": "log, *, seats=60, crowd=False"},
    "logs.runs": {"read_run": "text"},
}
CLASSES = {
    "base.post": {"Post": ("seats", {
        "put": "a, b, letter", "carry": "a, b", "fall": "seat", "letters": "a, b", "roads": "", "under_way": "",
        "__len__": "", "__eq__": "other", "__str__": ""})},
    "base.seats": {
        "Seat": ("me", {"ask": "", "leave": "", "hear": "sender, letter", "gone": "seat"}),
        "Puppet": ("me, seats, plays", {
            "unplayed": "", "ask": "", "leave": "", "hear": "sender, letter", "gone": "seat"})},
    "base.hall": {"Hall": ("machines, *, falls=False, askers=None", {
        "ask": "seat", "leave": "seat", "carry": "a, b", "fall": "seat", "run": "deeds", "calm": "*, most=10000",
        "runs": "", "rows": "", "state_of": "seat", "within": "", "waiters": "", "letters": "a, b", "roads": "",
        "under_way": "", "still": "", "machine_of": "seat", "__len__": "", "__str__": ""})},
    "logs.runs": {"Run": ("log, *, seats=60", {
        "rows": "", "straight": "k", "__len__": "", "__eq__": "other", "__str__": ""})},
}
VALUES = {"base.post": {"SEATS": 60}, "base.hall": {"CALM": 10000}, "logs.rows": {"SEATS": 60}}


def arguments(told):
    return str(inspect.signature(told))[1:-1]


def file_of(name):
    return importlib.import_module("soleseat." + name)


class Interface(unittest.TestCase):
    def test_defs(self):
        for name, defs in DEFS.items():
            for told, wanted in defs.items():
                made = vars(file_of(name))[told]
                self.assertEqual(made.__module__, "soleseat." + name)
                self.assertEqual(arguments(made), wanted, told)

    def test_classes(self):
        for name, classes in CLASSES.items():
            for told, (wanted, methods) in classes.items():
                made = vars(file_of(name))[told]
                self.assertEqual(made.__module__, "soleseat." + name)
                self.assertEqual(arguments(made), wanted, told)
                for method, wanted_there in methods.items():
                    self.assertIn(method, vars(made))
                    there = arguments(vars(made)[method])
                    self.assertEqual(there, ", ".join(["self"] + [wanted_there] * (wanted_there != "")), method)

    def test_values(self):
        for name, values in VALUES.items():
            for told, wanted in values.items():
                self.assertEqual(vars(file_of(name))[told], wanted)


if __name__ == "__main__":
    unittest.main()
