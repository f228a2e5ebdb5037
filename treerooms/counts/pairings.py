"""How many full worlds there are, counted by kinds of ways."""

from math import factorial

from treerooms.base.lots import turned_member
from treerooms.counts.ways import kinds_of_ways, lot_classes, renamings_of


class TieClasses:
    """The classes of lots of the members of a tie, which are told by the indices of their pairs."""

    def __init__(self, web, number):
        side = web.side(number)
        room = web.rooms[side.source]
        self.within = side.within
        # Row i has at j the index of the member of the pair j, turned by that of the pair i.
        self.turns = [
            [side.within.index(turned_member(room, member, by)) for member in side.within] for by in side.within
        ]
        self.numbers = {}
        self.renamings = []

    def class_of(self, indices):
        """The number of the class of a lot of the tie's members; classes are numbered as they are met."""
        lots = [tuple(sorted([row[index] for index in indices])) for row in self.turns]
        least = min(lots)
        if least not in self.numbers:
            self.numbers[least] = len(self.numbers)
            self.renamings.append(lots.count(indices) // len(indices))
        return self.numbers[least]

    def cut(self, room, members, lot):
        """How many lots of spots of each class the tie's members make of one lot of spots.

        The `members` of the tie, in the sequence of its pairs, move the spots
        as members of the room; the lot leaves one of the spots.
        """
        found = {}
        for by in range(room.size):
            left = tuple([at for at, member in enumerate(members) if turned_member(room, member, by) in lot])
            number = self.class_of(left)
            # Each spot is met for as many members as the lot has, each lot of spots for all its spots.
            found[number] = found.get(number, 0) + len(left)
        return {number: total // (len(lot) * len(members)) for number, total in found.items()}


class Point:
    """The kinds of ways of the room at a point, and what the ties that begin or end there make of them."""

    def __init__(self, web, point, ties):
        self.room = web.rooms[point]
        self.classes = lot_classes(self.room)
        self.cuts = {}
        for tie in web.beginnings(point):
            members = tuple([pair[0 if tie > 0 else 1] for pair in web.ties[abs(tie) - 1][2]])
            self.cuts[tie] = [ties[abs(tie)].cut(self.room, members, one.sample) for one in self.classes]

    def sorts(self, many):
        """The kinds of ways to move so many spots, each with the number of its ways."""
        numbers = [one.renamings for one in self.classes]
        return [(kind, factorial(many) // renamings_of(numbers, kind)) for kind in kinds_of_ways(self.classes, many)]

    def cut_kind(self, tie, kind, width):
        """How many lots of spots of each of so many classes a tie makes of a way of a kind."""
        counts = [0] * width
        for lots, cut in zip(kind, self.cuts[tie]):
            for number, many in cut.items():
                counts[number] += lots * many
        return tuple(counts)


class Tally:
    """The numbers of full worlds of a web, worked out point by point."""

    def __init__(self, web):
        self.ground = web
        self.tie_classes = {number: TieClasses(web, number) for number in range(1, web.size + 1)}
        self.sites = [Point(web, point, self.tie_classes) for point in range(web.points)]

    def worlds(self, many):
        """The number of full worlds with so many spots at each point."""
        # What the ties that are open, because one end of them was met alone, make of the ways there.
        open_ties = ()
        states = {(): 1}
        for point in range(self.ground.points):
            here = self.ground.beginnings(point)
            closing = tuple([tie for tie in here if -tie in open_ties])
            opening = tuple([tie for tie in here if -tie not in here and -tie not in open_ties])
            groups = self._groups(point, many, closing, opening)
            states = joined_states(states, groups, [open_ties.index(-tie) for tie in closing])
            open_ties = tuple([tie for tie in open_ties if -tie not in closing]) + opening
        return sum(list(states.values()))

    def _groups(self, point, many, closing, opening):
        """For what the closing ties make of a way here, what the opening ones make of it, with numbers of ways."""
        site = self.sites[point]
        loops = [tie for tie in self.ground.beginnings(point) if tie > 0 and self.ground.side(tie).target == point]
        groups = {}
        for kind, weight in site.sorts(many):
            for tie in loops:
                cut = self._cut(point, tie, kind)
                weight = weight * self._pairings(tie, cut) if cut == self._cut(point, -tie, kind) else 0
            closed = tuple([self._cut(point, tie, kind) for tie in closing])
            for tie, cut in zip(closing, closed):
                weight = weight * self._pairings(tie, cut)
            row = groups.setdefault(closed, {})
            begun = tuple([self._cut(point, tie, kind) for tie in opening])
            row[begun] = row.get(begun, 0) + weight
        return groups

    def _cut(self, point, tie, kind):
        return self.sites[point].cut_kind(tie, kind, len(self.tie_classes[abs(tie)].renamings))

    def _pairings(self, tie, cut):
        """In how many ways the spots at both ends of a tie can be paired, if both are cut so."""
        return renamings_of(self.tie_classes[abs(tie)].renamings, cut)


def joined_states(states, groups, places):
    """The states behind a point; what stands in a state at these places must be what the closing ties make here."""
    found = {}
    for state, weight in states.items():
        closed = tuple([state[place] for place in places])
        rest = tuple([cut for place, cut in enumerate(state) if place not in places])
        for begun, more in groups.get(closed, {}).items():
            found[rest + begun] = found.get(rest + begun, 0) + weight * more
    return {state: weight for state, weight in found.items() if weight > 0}
