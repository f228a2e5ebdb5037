"""Ties as they are gone in one of both directions."""

from treerooms.base.lots import partings


class Side:
    """A directed tie, from the room at `source` to the point `target`, at which there is the room `goal`."""

    def __init__(self, source, target, room, goal, pairs):
        goals = dict(pairs)
        self.source = source
        self.target = target
        self.goal_table = goal.table
        self.within = tuple([member for member, _ in pairs])
        self.carries = tuple([goals.get(member) for member in range(room.size)])
        self.parts = partings(room, self.within)
        # For each member r a, r the least one of its left lot, the pair of r and what a is carried to.
        self.carried_parts = tuple([(least, self.carries[rest]) for least, rest in self.parts])
        self.leasts = tuple([member for member in range(room.size) if self.parts[member][0] == member])


def sides_of(rooms, ties):
    """The sides of all directed ties, by the directed ties."""
    sides = {}
    for number, (begin, end, pairs) in enumerate(ties, start=1):
        back = tuple(sorted([(goal, member) for member, goal in pairs]))
        sides[number] = Side(begin, end, rooms[begin], rooms[end], pairs)
        sides[-number] = Side(end, begin, rooms[end], rooms[begin], back)
    return sides


def beginnings_of(points, ties):
    """For each point the directed ties that begin there, ascending."""
    rows = [[] for _ in range(points)]
    for number, (begin, end, _) in enumerate(ties, start=1):
        rows[begin].append(number)
        rows[end].append(-number)
    return tuple([tuple(sorted(row)) for row in rows])
