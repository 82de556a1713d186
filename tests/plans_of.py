"""Plans drawn by chance, and their nests driven."""

from driving import Drive
from families import some_meeting_sets
from soleseat.calls.halls import call_hall
from soleseat.nests.nest import nest_hall
from soleseat.nests.plans import MANNERS, Branch, Leaf
from soleseat.stamps.halls import stamp_hall
from soleseat.trees.tree import Tree
from soleseat.trees.turners import turner_hall
from soleseat.trees.twigs import twig_hall
from soleseat.votes.halls import vote_hall


def leaves(many):
    return [Leaf() for _ in range(many)]


def some_branch(chance, manner, parts):
    """A branch of such a manner, of these parts."""
    many = len(parts)
    above, sets = (), ()
    if manner in ("tree", "turning"):
        above = [chance.randrange(part) for part in range(1, many)]
    if manner == "votes":
        sets = some_meeting_sets(chance, many, 8)
    return Branch(manner, parts, above=above, sets=sets)


def some_plan(chance, most=14, deep=4, manner=None):
    """A branch with at most so many leaves, so many branches within one another at most."""
    parts = []
    for _ in range(chance.randrange(1, 5)):
        left = most - sum(len(part) for part in parts)
        if left < 1:
            break
        if deep > 1 and chance.random() < 0.5:
            parts.append(some_plan(chance, max(1, left // 2), deep - 1))
        else:
            parts.append(Leaf())
    return some_branch(chance, manner or chance.choice(MANNERS), parts)


def hall_of(branch):
    """A hall of the branch's manner, a seat for each part."""
    many = len(branch.parts)
    tree = Tree([0] + list(branch.above)) if branch.manner in ("tree", "turning") else None
    return {"stamps": lambda: stamp_hall(many), "tree": lambda: twig_hall(tree),
            "turning": lambda: turner_hall(tree), "votes": lambda: vote_hall(many, list(branch.sets)),
            "calls": lambda: call_hall(many)}[branch.manner]()


class NestDrive(Drive):
    """A drive of a plan's nest, in which leaves alone ask."""

    def __init__(self, plan, seed, **more):
        self.plan = plan
        super().__init__(nest_hall(plan), seed, askers=len(plan), **more)
