"""All full worlds with few spots, one after the other."""

from treerooms.base.lots import few_makers
from treerooms.base.permutations import all_products, exchange, followed


def all_permutations(many):
    """All permutations of so many spots, ascending."""
    makers = [exchange(many, at) for at in range(many - 1)]
    # No more than three spots are moved here, so that any bound does.
    return all_products(many, makers, 6)


def all_ways(room, permutations):
    """All ways of the room to move spots by some permutations, which are all there are, ascending."""
    makers = few_makers(room, tuple(range(room.size)))
    choices = [()]
    for _ in makers:
        choices = [choice + (one,) for choice in choices for one in permutations]
    ways = [way_made(room, makers, choice, permutations[0]) for choice in choices]
    return sorted([way for way in ways if way is not None])


def way_made(room, makers, choice, idle):
    """The way in which the makers move the spots by the chosen permutations, None if there is none."""
    moves = {0: idle}
    waiting = [0]
    while waiting:
        member = waiting.pop()
        for maker, one in zip(makers, choice):
            more, goal = room.table[member][maker], followed(moves[member], one)
            if moves.get(more, goal) != goal:
                return None
            if more not in moves:
                moves[more] = goal
                waiting.append(more)
    return tuple([moves[member] for member in range(room.size)])


def pairings_of(tie, ways, permutations):
    """All ways to pair the spots at both ends of a tie, by the indices of the ways there.

    Each is told as ascending pairs; they are ascending.
    """
    begin, end, pairs = tie
    found = {}
    for at, way in enumerate(ways[begin]):
        for other_at, other in enumerate(ways[end]):
            steps = [(way[member], other[goal]) for member, goal in pairs]
            found[(at, other_at)] = [
                tuple(enumerate(one)) for one in permutations
                if all([followed(ahead, one) == followed(one, behind) for ahead, behind in steps])
            ]
    return found


class Listing:
    """The ways of all rooms to move so many spots, and how they can be paired at the ties."""

    def __init__(self, web, many):
        permutations = all_permutations(many)
        self.ground = web
        self.ways = [all_ways(room, permutations) for room in web.rooms]
        self.pairings = [pairings_of(tie, self.ways, permutations) for tie in web.ties]

    def rows(self):
        """The indices of the ways of all points for which all ties can be paired, ascending."""
        # Beside each row the ways that are still open for all points, as far as the ties to the row tell.
        rows = [((), tuple([tuple(range(len(ways))) for ways in self.ways]))]
        for point in range(self.ground.points):
            rows = self._rows_with(point, rows)
        return [row for row, _ in rows]

    def _rows_with(self, point, rows):
        """The rows with one way more, of the point, that leave some way open for each point."""
        found = []
        for row, open_ways in rows:
            for at in open_ways[point]:
                left = self._left_open(point, at, open_ways)
                if all(left):
                    found.append((row + (at,), left))
        return found

    def _left_open(self, point, at, open_ways):
        """The ways that are still open for all points if the point has the way with this index."""
        left = list(open_ways)
        left[point] = (at,)
        for tie, goal in self.ground.exits[point].items():
            if goal >= point:
                left[goal] = tuple([other for other in left[goal] if self._choices(tie, at, other)])
        return tuple(left)

    def _choices(self, tie, at, other_at):
        """The ways to pair the spots at a directed tie, if its begin and its end have the ways with these indices."""
        return self.pairings[abs(tie) - 1][(at, other_at) if tie > 0 else (other_at, at)]

    def moves_of(self, row):
        """The moves of the ways with these indices."""
        return tuple([ways[at] for ways, at in zip(self.ways, row)])

    def pair_rows(self, row):
        """The pairs of all full worlds in which the points have the ways with these indices, ascending."""
        found = [()]
        for number, (begin, end, _) in enumerate(self.ground.ties, start=1):
            choices = self._choices(number, row[begin], row[end])
            found = [done + (choice,) for done in found for choice in choices]
        return found
