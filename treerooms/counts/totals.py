"""Sums of the words of a web, told by few columns."""

from treerooms.base.lots import lot_made
from treerooms.counts.lattices import Lattice
from treerooms.webs.webs import tree_taken
from treerooms.worlds.spots import many_for_all


def last_makers(room):
    """Members that make the room, descending, none of them made by those ahead of it."""
    makers = ()
    made = (0,)
    for member in range(room.size - 1, 0, -1):
        if member not in made:
            makers = makers + (member,)
            made = lot_made(room, makers)
    return makers


def maker_counts(room, makers):
    """For each member how often the makers stand in one product of them that it is."""
    counts = {0: (0,) * len(makers)}
    waiting = [0]
    while waiting:
        member = waiting.pop()
        for at, maker in enumerate(makers):
            more = room.table[member][maker]
            if more not in counts:
                counts[more] = count_with(counts[member], at)
                waiting.append(more)
    return counts


def count_with(counts, at):
    """The counts with one more at an index."""
    return counts[:at] + (counts[at] + 1,) + counts[at + 1:]


class Totals:
    """The sums of the words of a web.

    Of the columns of a room those of some makers are kept, the last ones that
    make the room. Each other member is made by makers behind its column, so
    that its own column has the lead 1.
    """

    def __init__(self, web):
        self.ground = web
        self.makers = [last_makers(room) for room in web.rooms]
        self.counts = [maker_counts(room, makers) for room, makers in zip(web.rooms, self.makers)]
        tree = tree_taken(web.points, web.ties)
        self.outside = [tie for tie in range(1, web.size + 1) if tie not in tree]
        # A member, taken as often as there are members, has the sum of (0,).
        self.rules = Lattice(many_for_all(web))
        for point in range(web.points):
            self._add_rules_of_room(point)
        for begin, end, pairs in web.ties:
            for member, goal in pairs:
                self.rules.add(difference(self.row_of(begin, member), self.row_of(end, goal)))

    def _add_rules_of_room(self, point):
        table, counts = self.ground.rooms[point].table, self.counts[point]
        for member in counts:
            for at, maker in enumerate(self.makers[point]):
                row, goal = count_with(counts[member], at), counts[table[member][maker]]
                if row != goal:
                    self.rules.add(difference(self._named(point, row), self._named(point, goal)))

    def _named(self, point, counts):
        return {(point, maker): many for maker, many in zip(self.makers[point], counts) if many > 0}

    def row_of(self, point, member):
        """The row of a member, told by makers."""
        return self._named(point, self.counts[point][member])

    def least_row(self, word, times):
        """The least row of a word, taken so many times, without the columns of ties."""
        row = {}
        point = 0
        for at in range(0, len(word), 2):
            point = self.ground.side(word[at - 1]).target if at > 0 else 0
            for column, many in self.row_of(point, word[at]).items():
                row[column] = row.get(column, 0) + times * many
        return self.rules.reduced(row)

    def tie_counts(self, word):
        """For each tie outside the least tree how often it stands in a word, less how often gone back."""
        steps = word[1::2]
        return tuple([steps.count(tie) - steps.count(-tie) for tie in self.outside])

    def columns(self):
        """The columns of the makers, ascending."""
        return sorted([(point, maker) for point, row in enumerate(self.makers) for maker in row])


def difference(row, other):
    """The row less the other one."""
    found = {column: row[column] for column in row}
    for column, many in other.items():
        found[column] = found.get(column, 0) - many
    return found
