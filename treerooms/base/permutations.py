"""Permutations: tuples p in which the point i goes to p[i]."""

from treerooms.base.checks import is_within


def is_permutation(value, points):
    """Whether the value is a permutation of so many points."""
    if not isinstance(value, tuple) or len(value) != points:
        return False
    if not all([is_within(goal, 0, points - 1) for goal in value]):
        return False
    return sorted(value) == list(range(points))


def followed(one, other):
    """The permutation that does `one` first, then `other`."""
    return tuple([other[goal] for goal in one])


def exchange(points, at):
    """The permutation that exchanges the points `at` and `at` + 1."""
    goals = list(range(points))
    goals[at], goals[at + 1] = at + 1, at
    return tuple(goals)


def all_products(points, makers, most):
    """The products of the makers, ascending; None if they are more than `most`."""
    idle = tuple(range(points))
    found = {idle: True}
    waiting = [idle]
    while waiting:
        one = waiting.pop()
        for maker in makers:
            more = followed(one, maker)
            if more not in found:
                if len(found) == most:
                    return None
                found[more] = True
                waiting.append(more)
    return tuple(sorted(found))


def product_table(members):
    """Row a has at b the number of the product a b."""
    numbers = {member: number for number, member in enumerate(members)}
    return tuple([
        tuple([numbers[followed(one, other)] for other in members])
        for one in members
    ])
