"""The refusals of the post, of machines and of halls."""


class SoleError(ValueError):
    """What most refusals of the package stand under."""


class NoSeat(SoleError):
    """What was handed in is no seat, or no number of seats."""

    def __init__(self, seat):
        super().__init__("this is no seat here")
        self.seat = seat


class Fallen(SoleError):
    """The seat has fallen."""

    def __init__(self, seat):
        super().__init__("this seat has fallen")
        self.seat = seat


class NotOut(SoleError):
    """The seat is asking or in already."""

    def __init__(self, seat):
        super().__init__("this seat is not out")
        self.seat = seat


class NotIn(SoleError):
    """The seat is not in."""

    def __init__(self, seat):
        super().__init__("this seat is not in")
        self.seat = seat


class NeverAsks(SoleError):
    """The seat is none of those that may ask in this hall."""

    def __init__(self, seat):
        super().__init__("this seat never asks")
        self.seat = seat


class NoFalls(SoleError):
    """In this hall no seat falls."""

    def __init__(self):
        super().__init__("no seat falls in this hall")


class BadDeed(SoleError):
    """At this place of a run stands no deed."""

    def __init__(self, at):
        super().__init__("this is no deed")
        self.at = at


class BadLetter(SoleError):
    """This is no letter; at is the place of its first fault."""

    def __init__(self, at):
        super().__init__("this is no letter")
        self.at = at


class BadPlay(SoleError):
    """At this place of a puppet's plays stands no play."""

    def __init__(self, at):
        super().__init__("this is no play")
        self.at = at


class BadHall(SoleError):
    """The machine at this place cannot sit in the hall, and why."""

    def __init__(self, at, why):
        super().__init__("of these machines no hall is made")
        self.at = at
        self.why = why


class NoLetter(LookupError):
    """Nothing is on the road from the sender."""

    def __init__(self, sender, to):
        super().__init__("nothing is on this road")
        self.sender = sender
        self.to = to
