"""The refusal of first counts."""

from soleseat.base.errors import SoleError


class BadCounts(SoleError):
    """At this place of the first counts stands none."""

    def __init__(self, at):
        super().__init__("this is no first count")
        self.at = at
