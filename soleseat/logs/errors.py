"""The refusals of logs, runs and weavings."""

from soleseat.base.errors import SoleError


class NoLine(SoleError):
    """The line of this number, counted from 1, is not written as it has to be."""

    def __init__(self, at):
        super().__init__("this line is not written so")
        self.at = at


class Unsound(SoleError):
    """The log is no run: the first row that has a fault, and its fault."""

    def __init__(self, at, why):
        super().__init__("this log is no run")
        self.at = at
        self.why = why


class NoRow(SoleError):
    """What was handed in is no row of the run."""

    def __init__(self, at):
        super().__init__("this is no row of the run")
        self.at = at


class NotClosed(SoleError):
    """The cut is not closed in the run."""

    def __init__(self):
        super().__init__("this cut is not closed")


class NoOrder(SoleError):
    """At this place the order weaves the run no further."""

    def __init__(self, at):
        super().__init__("this order is none of a weaving")
        self.at = at
