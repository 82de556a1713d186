"""The refusals of plans and nests."""

from soleseat.base.errors import SoleError


class NoBranch(SoleError):
    """Of these no branch is made, and why."""

    def __init__(self, why):
        super().__init__("of these no branch is made")
        self.why = why


class BadText(SoleError):
    """At the word of this place the text is that of no plan, and why."""

    def __init__(self, at, why):
        super().__init__("this text is that of no plan")
        self.at = at
        self.why = why


class NoPath(SoleError):
    """The plan has no branch at this path."""

    def __init__(self, path):
        super().__init__("no branch is at this path")
        self.path = path
