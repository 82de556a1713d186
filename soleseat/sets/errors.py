"""The refusals of families of sets."""

from soleseat.base.errors import SoleError


class NoFamily(SoleError):
    """The first set that is not well, and the word that fits it."""

    def __init__(self, at, why):
        super().__init__("this set is not well")
        self.at = at
        self.why = why


class TooMany(SoleError):
    """There are too many of what is told, or, of seats, too few."""

    def __init__(self, what):
        super().__init__("there are too many")
        self.what = what


class NoSet(SoleError):
    """This is not the number of a set."""

    def __init__(self, number):
        super().__init__("this is not the number of a set")
        self.number = number


class NoShape(SoleError):
    """No grid and no wall has a side of this length."""

    def __init__(self, number):
        super().__init__("no such shape has a side so long")
        self.number = number


class Apart(SoleError):
    """These two sets share no seat."""

    def __init__(self, left, right):
        super().__init__("two sets share no seat")
        self.left = left
        self.right = right


class TooManyFallen(SoleError):
    """So many seats have fallen that perhaps no set is whole."""

    def __init__(self, many):
        super().__init__("too many seats have fallen")
        self.many = many


class NotPrime(ArithmeticError):
    """The number is no prime to which a plane belongs."""

    def __init__(self, number):
        super().__init__("no plane belongs to this number")
        self.number = number
