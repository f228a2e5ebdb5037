"""Which names lead the ties of one web to those of another one, up to turning ties."""

from treerooms.base.leading import renamings
from treerooms.base.lots import turned_member
from treerooms.kin.sketches import told_from


def turners(room):
    """The least members that turn the members of the room in different ways."""
    found = {}
    for by in range(room.size):
        found.setdefault(tuple([turned_member(room, member, by) for member in range(room.size)]), by)
    return tuple(found.values())


class Matching:
    """The rooms of one web, and another web, whose ties are matched."""

    def __init__(self, rooms, other):
        self.first_rooms = rooms
        self.other = other
        # For each room the rows of all members, turned by each of its turners, by these.
        self.turns = [
            {by: tuple([turned_member(room, member, by) for member in range(room.size)]) for by in turners(room)}
            for room in rooms
        ]
        self.renamings = {}
        for point, room in enumerate(rooms):
            for goal, other_room in enumerate(other.rooms):
                self.renamings[(point, goal)] = renamings(room, other_room)

    def names(self, ties):
        """The points, renamings and ties by which ties become the other ones up to turning, None if there are none."""
        for points, names in self._matched(ties, {}, ()):
            rows = self._rows(ties, points, names, {}, 0)
            if rows is not None:
                count = range(len(self.first_rooms))
                return tuple([points[at] for at in count]), tuple([rows[at] for at in count]), names
        return None

    def _matched(self, ties, points, names):
        """All ways to match the points and the ties behind those that are matched already."""
        if len(names) == len(ties):
            # A web without ties has one point.
            return [(points or {0: 0}, names)] if points or self.renamings[(0, 0)] else []
        begin, end, pairs = ties[len(names)]
        taken = [abs(name) for name in names]
        found = []
        for number in range(1, len(ties) + 1):
            for name in (number, -number):
                goals = told_from(self.other.ties, name)
                if number not in taken and len(goals[2]) == len(pairs):
                    more = self._points_with(self._points_with(points, begin, goals[0]), end, goals[1])
                    if more is not None:
                        found.extend(self._matched(ties, more, names + (name,)))
        return found

    def _points_with(self, points, point, goal):
        """The matched points with one more, None if this cannot be."""
        if points is None or not self.renamings[(point, goal)]:
            return None
        if point in points:
            return points if points[point] == goal else None
        if goal in list(points.values()):
            return None
        return {**points, point: goal}

    def _rows(self, ties, points, names, rows, point):
        """Renamings for all points, those ahead of a point being given in `rows`; None if there are none."""
        if point == len(self.first_rooms):
            return rows
        for row in self.renamings[(point, points[point])]:
            more = {**rows, point: row}
            if all([self._goes_along(tie, name, more, point) for tie, name in zip(ties, names)]):
                found = self._rows(ties, points, names, more, point + 1)
                if found is not None:
                    return found
        return None

    def _goes_along(self, tie, name, rows, point):
        """Whether a tie whose greater point this is becomes the other one with that name, up to turning."""
        if max(tie[0], tie[1]) != point:
            return True
        return self.turning(tie, name, rows) is not None

    def turning(self, tie, name, rows):
        """The members that turn a tie at its begin and its end, so that it becomes the other one with that name.

        None if there are none.
        """
        begin, end, pairs = tie
        wanted = sorted(told_from(self.other.ties, name)[2])
        for by, turned in self.turns[begin].items():
            for end_by, end_turned in self.turns[end].items():
                row = [(rows[begin][turned[one]], rows[end][end_turned[two]]) for one, two in pairs]
                if sorted(row) == wanted:
                    return by, end_by
        return None
