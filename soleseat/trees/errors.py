"""The refusal of trees."""

from soleseat.base.errors import SoleError


class NoTree(SoleError):
    """The ups tell no tree."""

    def __init__(self):
        super().__init__("these ups tell no tree")
