"""The plans of halls of halls."""

from soleseat.base.whole import is_below
from soleseat.nests.errors import NoBranch
from soleseat.sets.forms import SETS, fault
from soleseat.sets.meeting import meeting

MANNERS = ("stamps", "tree", "turning", "votes", "calls")
DEEPEST = 6
MOST = 60


class Leaf:
    """A plan that is one seat."""

    def words(self):
        """The words of the text."""
        return ["o"]

    def deep(self):
        """How many branches stand within one another."""
        return 0

    def halls(self):
        """How many branches there are."""
        return 0

    def __len__(self):
        return 1

    def __eq__(self, other):
        return isinstance(other, Leaf)

    def __str__(self):
        return "o"


class Branch:
    """A plan of parts, among which a hall of its manner lets one in at a time."""

    def __init__(self, manner, parts, *, above=(), sets=()):
        why = _branch_fault(manner, parts, above, sets)
        if why is not None:
            raise NoBranch(why)
        self.manner = manner
        self.parts = tuple(parts)
        self.above = tuple(above)
        self.sets = tuple(sets)

    def words(self):
        """The words of the text."""
        words = ["[", self.manner] + [str(part) for part in self.above]
        for number, one in enumerate(self.sets):
            if number > 0:
                words.append("|")
            words.extend([str(part) for part in one])
        words.append(":")
        for part in self.parts:
            words.extend(part.words())
        return words + ["]"]

    def deep(self):
        """How many branches stand within one another, itself too."""
        return 1 + max([part.deep() for part in self.parts])

    def halls(self):
        """How many branches there are, itself too."""
        return 1 + sum([part.halls() for part in self.parts])

    def __len__(self):
        return len([word for word in self.words() if word == "o"])

    def __eq__(self, other):
        return isinstance(other, Branch) and self.words() == other.words()

    def __str__(self):
        return " ".join(self.words())


def places(plan):
    """The paths of the nest's seats: the leaves, then the porters of the branches but the whole."""
    found = paths_within(plan)
    leaves = [path for path, part in found if isinstance(part, Leaf)]
    return leaves + [path for path, part in found if isinstance(part, Branch) and path != ()]


def paths_within(plan):
    """(path, plan) of a plan and of all within it, in the order of the text."""
    found = [((), plan)]
    if isinstance(plan, Branch):
        for number, part in enumerate(plan.parts):
            found.extend([((number,) + path, inner) for path, inner in paths_within(part)])
    return found


def _branch_fault(manner, parts, above, sets):
    """Why these, of anything, make no branch, or None."""
    if not isinstance(manner, str) or manner not in MANNERS:
        return "manner"
    if not isinstance(parts, (list, tuple)) or len(parts) == 0:
        return "parts"
    if not all([isinstance(part, Leaf) or isinstance(part, Branch) for part in parts]):
        return "parts"
    if sum([len(part) + part.halls() for part in parts]) > MOST:
        return "many"
    if max([part.deep() for part in parts]) >= DEEPEST:
        return "deep"
    if not _is_above(manner, len(parts), above):
        return "above"
    if not _are_sets(manner, len(parts), sets):
        return "sets"
    if manner == "votes" and meeting(len(parts), sets)[0] == "apart":
        return "apart"
    return None


def _is_above(manner, many, above):
    if not isinstance(above, (list, tuple)):
        return False
    if manner not in ("tree", "turning"):
        return len(above) == 0
    return len(above) == many - 1 and all([is_below(part, at + 1) for at, part in enumerate(above)])


def _are_sets(manner, many, sets):
    if not isinstance(sets, (list, tuple)):
        return False
    if manner != "votes":
        return len(sets) == 0
    if not 1 <= len(sets) <= SETS or not all([isinstance(one, tuple) for one in sets]):
        return False
    return fault(many, sets) is None
