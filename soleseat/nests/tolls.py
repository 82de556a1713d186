"""What goings in a nest cost in letters."""

from soleseat.base.post import look_at_seat
from soleseat.nests.nest import branch_at, branch_paths
from soleseat.nests.plans import places
from soleseat.trees.tree import Tree


def toll(plan, goers):
    """The least and the most letters of a still run in which these leaves came in, one behind the other."""
    for goer in goers:
        look_at_seat(goer, len(plan))
    paths = places(plan)
    least = most = 3 * sum([len(paths[goer]) - 1 for goer in goers])
    for path in branch_paths(plan):
        many = len(path)
        row = [paths[goer][many] for goer in goers if paths[goer][:many] == path]
        low, high = _branch_toll(branch_at(plan, path), row)
        least += low
        most += high
    return least, most


def _branch_toll(branch, row):
    """The least and the most letters of a branch's hall in which these parts came in."""
    many = len(branch.parts)
    if branch.manner == "stamps":
        return 2 * (many - 1) * len(row), 2 * (many - 1) * len(row)
    if branch.manner == "votes":
        numbers = sum([len(branch.sets[part % len(branch.sets)]) for part in row])
        return 3 * numbers, 6 * numbers
    moves = [(ahead, part) for ahead, part in zip([0] + row, row) if ahead != part]
    if branch.manner == "tree":
        tree = Tree((0,) + branch.above)
        steps = sum([tree.apart(ahead, part) for ahead, part in moves])
        return 2 * steps, 2 * steps
    if branch.manner == "turning":
        return 2 * len(moves), many * len(moves)
    return many * len(moves), many * len(moves)
