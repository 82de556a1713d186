"""Nests: the halls that plans tell."""

from soleseat.base.hall import Hall
from soleseat.base.whole import is_below
from soleseat.calls.halls import call_hall
from soleseat.nests.errors import NoPath
from soleseat.nests.plans import Branch, Leaf, paths_within, places
from soleseat.nests.porters import Member, Porter
from soleseat.stamps.halls import stamp_hall
from soleseat.trees.tree import Tree
from soleseat.trees.turners import turner_hall
from soleseat.trees.twigs import twig_hall
from soleseat.votes.halls import vote_hall


def branch_at(plan, path):
    """The branch at a path; of anything that is no path of one, NoPath."""
    if not isinstance(path, tuple):
        raise NoPath(path)
    found = plan
    for number in path:
        if isinstance(found, Leaf) or not is_below(number, len(found.parts)):
            raise NoPath(path)
        found = found.parts[number]
    if isinstance(found, Leaf):
        raise NoPath(path)
    return found


def branch_paths(plan):
    """The paths of all branches, in the order of the text."""
    return [path for path, part in paths_within(plan) if isinstance(part, Branch)]


def nest_hall(plan):
    """A hall of the plan's leaves and porters, in which leaves alone ask."""
    seats = seats_by_path(plan)
    machines = {}
    for path in branch_paths(plan):
        branch = branch_at(plan, path)
        mates = part_seats(seats, branch, path)
        for inner in _inner_machines(branch):
            seat = mates[inner.me]
            machines[seat] = _machine(seat < len(plan), seat, inner, mates, seats.get(path))
    return Hall([machines[seat] for seat in range(len(machines))], askers=len(plan))


def seats_by_path(plan):
    """For the path of each leaf, and of each branch but the whole, the seat that stands for it."""
    return {path: seat for seat, path in enumerate(places(plan))}


def part_seats(seats, branch, path):
    """The seats of the parts of a branch at a path, in order."""
    return [seats[path + (number,)] for number in range(len(branch.parts))]


def _machine(is_leaf, seat, inner, mates, porter):
    if is_leaf:
        return Member(seat, inner, mates, porter)
    return Porter(seat, inner, mates, porter)


def _inner_machines(branch):
    """The machines of a branch's hall, part by part."""
    hall = _inner_hall(branch)
    return [hall.machine_of(part) for part in range(len(hall))]


def _inner_hall(branch):
    """A hall of the branch's manner, a seat for each part."""
    many = len(branch.parts)
    if branch.manner == "stamps":
        return stamp_hall(many)
    if branch.manner == "tree":
        return twig_hall(Tree((0,) + branch.above))
    if branch.manner == "turning":
        return turner_hall(Tree((0,) + branch.above))
    if branch.manner == "votes":
        return vote_hall(many, list(branch.sets))
    return call_hall(many)
