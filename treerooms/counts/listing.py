"""All full worlds with few spots, one after the other."""

from treerooms.base.lots import few_makers
from treerooms.base.permutations import all_products, exchange, followed


def all_permutations(many):
    """All permutations of so many spots, ascending."""
    makers = [exchange(many, at) for at in range(many - 1)]
    # No more than three spots are moved here, so that any bound does.
    return all_products(many, makers, 6)


def all_ways(room, permutations):
    """All ways of the room to move spots by some permutations, which are all there are, ascending."""
    makers = few_makers(room, tuple(range(room.size)))
    choices = [()]
    for _ in makers:
        choices = [choice + (one,) for choice in choices for one in permutations]
    ways = [way_made(room, makers, choice, permutations[0]) for choice in choices]
    return sorted([way for way in ways if way is not None])


def way_made(room, makers, choice, idle):
    """The way in which the makers move the spots by the chosen permutations, None if there is none."""
    moves = {0: idle}
    waiting = [0]
    while waiting:
        member = waiting.pop()
        for maker, one in zip(makers, choice):
            more, goal = room.table[member][maker], followed(moves[member], one)
            if moves.get(more, goal) != goal:
                return None
            if more not in moves:
                moves[more] = goal
                waiting.append(more)
    return tuple([moves[member] for member in range(room.size)])


def pairings_of(tie, moves, permutations):
    """All ways to pair the spots at both ends of a tie, each as ascending pairs, ascending."""
    begin, end, pairs = tie
    steps = [(moves[begin][member], moves[end][goal]) for member, goal in pairs]
    found = []
    for one in permutations:
        if all([followed(ahead, one) == followed(one, behind) for ahead, behind in steps]):
            found.append(tuple(enumerate(one)))
    return found


def full_moves(web, permutations):
    """The moves of all full worlds, ascending."""
    rows = [()]
    for point, room in enumerate(web.rooms):
        ways = all_ways(room, permutations)
        done = [tie for tie in web.ties if max(tie[0], tie[1]) == point]
        rows = [
            row + (way,) for row in rows for way in ways
            if all([pairings_of(tie, row + (way,), permutations) for tie in done])
        ]
    return rows


def full_parts(web, many):
    """The moves and pairs of all full worlds, ascending."""
    permutations = all_permutations(many)
    found = []
    for moves in full_moves(web, permutations):
        rows = [()]
        for tie in web.ties:
            choices = pairings_of(tie, moves, permutations)
            rows = [row + (choice,) for row in rows for choice in choices]
        found.extend([(moves, row) for row in rows])
    return found
