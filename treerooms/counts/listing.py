"""All full worlds with few spots, one after the other."""

from treerooms.base.lots import few_makers
from treerooms.base.permutations import all_products, exchange, followed


def all_permutations(many):
    """All permutations of so many spots, ascending."""
    makers = [exchange(many, at) for at in range(many - 1)]
    # No more than three spots are moved here, so that any bound does.
    return all_products(many, makers, 6)


def all_ways(room, permutations):
    """All ways of the room to move spots by some permutations, which are all there are, ascending."""
    makers = few_makers(room, tuple(range(room.size)))
    choices = [()]
    for _ in makers:
        choices = [choice + (one,) for choice in choices for one in permutations]
    ways = [way_made(room, makers, choice, permutations[0]) for choice in choices]
    return sorted([way for way in ways if way is not None])


def way_made(room, makers, choice, idle):
    """The way in which the makers move the spots by the chosen permutations, None if there is none."""
    moves = {0: idle}
    waiting = [0]
    while waiting:
        member = waiting.pop()
        for maker, one in zip(makers, choice):
            more, goal = room.table[member][maker], followed(moves[member], one)
            if moves.get(more, goal) != goal:
                return None
            if more not in moves:
                moves[more] = goal
                waiting.append(more)
    return tuple([moves[member] for member in range(room.size)])


def pairings_of(tie, ways, permutations):
    """All ways to pair the spots at both ends of a tie, by the indices of the ways there.

    Each is told as ascending pairs; they are ascending.
    """
    begin, end, pairs = tie
    found = {}
    for at, way in enumerate(ways[begin]):
        for other_at, other in enumerate(ways[end]):
            steps = [(way[member], other[goal]) for member, goal in pairs]
            found[(at, other_at)] = [
                tuple(enumerate(one)) for one in permutations
                if all([followed(ahead, one) == followed(one, behind) for ahead, behind in steps])
            ]
    return found


class Listing:
    """The ways of all rooms to move so many spots, and how they can be paired at the ties."""

    def __init__(self, web, many):
        permutations = all_permutations(many)
        self.ground = web
        self.ways = [all_ways(room, permutations) for room in web.rooms]
        self.pairings = [pairings_of(tie, self.ways, permutations) for tie in web.ties]

    def choices(self, tie, row):
        """The ways to pair the spots at the tie with this index, if the points have the ways with these indices."""
        begin, end, _ = self.ground.ties[tie]
        return self.pairings[tie][(row[begin], row[end])]

    def rows(self):
        """The indices of the ways of all points for which all ties can be paired, ascending."""
        rows = [()]
        for point, ways in enumerate(self.ways):
            done = [tie for tie, (begin, end, _) in enumerate(self.ground.ties) if max(begin, end) == point]
            rows = [
                row + (at,) for row in rows for at in range(len(ways))
                if all([self.choices(tie, row + (at,)) for tie in done])
            ]
        return rows

    def full_parts(self):
        """The moves and pairs of all full worlds, ascending."""
        found = []
        for row in self.rows():
            moves = tuple([ways[at] for ways, at in zip(self.ways, row)])
            pairs = [()]
            for tie in range(self.ground.size):
                pairs = [done + (choice,) for done in pairs for choice in self.choices(tie, row)]
            found.extend([(moves, one) for one in pairs])
        return found
