"""The refusals of votes by sets."""

from soleseat.base.errors import SoleError


class Barred(SoleError):
    """The seat that asks has no free set."""

    def __init__(self, seat):
        super().__init__("this seat has no free set")
        self.seat = seat


class NoFirst(SoleError):
    """At this place of the first sets stands no number of a set."""

    def __init__(self, place):
        super().__init__("this is no first set")
        self.place = place
