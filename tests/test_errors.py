import unittest

from soleseat.base import errors as base
from soleseat.logs import errors as logs
from soleseat.nests import errors as nests
from soleseat.sets import errors as sets
from soleseat.stamps import errors as stamps
from soleseat.trees import errors as trees
from soleseat.votes import errors as votes

# Each class with the names of its fields.
UNDER_SOLE_ERROR = [
    (base.NoSeat, ["seat"]), (base.Fallen, ["seat"]), (base.NotOut, ["seat"]), (base.NotIn, ["seat"]),
    (base.NeverAsks, ["seat"]), (base.NoFalls, []), (base.BadDeed, ["at"]), (base.BadLetter, ["at"]),
    (base.BadPlay, ["at"]), (base.BadHall, ["at", "why"]),
    (logs.NoLine, ["at"]), (logs.Unsound, ["at", "why"]), (logs.NoRow, ["at"]), (logs.NotClosed, []),
    (logs.NoOrder, ["at"]),
    (stamps.BadCounts, ["at"]),
    (trees.NoTree, []),
    (sets.NoFamily, ["at", "why"]), (sets.TooMany, ["what"]), (sets.NoSet, ["number"]), (sets.NoShape, ["number"]),
    (sets.Apart, ["left", "right"]), (sets.TooManyFallen, ["many"]),
    (votes.Barred, ["seat"]), (votes.NoFirst, ["place"]),
    (nests.NoBranch, ["why"]), (nests.BadText, ["at", "why"]), (nests.NoPath, ["path"]),
]
ELSEWHERE = [
    (base.SoleError, ValueError, None),
    (base.NoLetter, LookupError, ["sender", "to"]),
    (sets.NotPrime, ArithmeticError, ["number"]),
]


class Errors(unittest.TestCase):
    def look(self, made, fields):
        values = [object() for _ in fields]
        error = made(*values)
        for field, value in zip(fields, values):
            self.assertIs(getattr(error, field), value)
        self.assertIsInstance(str(error), str)
        with self.assertRaises(made):
            raise error
        with self.assertRaises(TypeError):
            made(*values, 0)

    def test_straight_under_sole_error(self):
        for made, fields in UNDER_SOLE_ERROR:
            with self.subTest(made.__name__):
                self.assertEqual(made.__bases__, (base.SoleError,))
                self.look(made, fields)

    def test_elsewhere(self):
        for made, above, fields in ELSEWHERE:
            with self.subTest(made.__name__):
                self.assertEqual(made.__bases__, (above,))
                if fields is not None:
                    self.look(made, fields)
        self.assertFalse(issubclass(base.NoLetter, ValueError))
        self.assertFalse(issubclass(sets.NotPrime, ValueError))

    def test_none_stands_under_another_one(self):
        classes = [made for made, _ in UNDER_SOLE_ERROR] + [base.NoLetter, sets.NotPrime]
        for made in classes:
            for other in classes:
                self.assertEqual(issubclass(made, other), made is other)

    def test_each_stands_in_its_file(self):
        for made, *_ in UNDER_SOLE_ERROR + ELSEWHERE:
            self.assertRegex(made.__module__, r"^soleseat\.\w+\.errors$")
        for module in (base, logs, nests, sets, stamps, trees, votes):
            for name, value in vars(module).items():
                if isinstance(value, type) and name != "SoleError":
                    self.assertEqual(value.__module__, module.__name__)


if __name__ == "__main__":
    unittest.main()
