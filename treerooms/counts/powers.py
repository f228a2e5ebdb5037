"""The plain forms of powers of long words, entry by entry, without writing them out."""

from treerooms.webs.walks import walk_back


def stay_behind(web, point, carried, road, ties):
    """The stay behind so many ties of a road from a point, ahead of which a member is carried.

    The road has no pinch; the stays ahead of its ties are made least ones.
    """
    stay = web.rooms[point].table[carried][road[0]]
    for at in range(1, 2 * ties, 2):
        side = web.side(road[at])
        _, rest = side.parts[stay]
        stay = web.rooms[side.target].table[side.carries[rest]][road[at + 1]]
    return stay


class FarPower:
    """A power, from 1 on, of a long word: a road, the core so many times, and the road gone back.

    This has no pinch, so that the plain form has the same ties. Its stays are
    worked out from the left; what is carried ahead of a core is one of a few
    members, so that they come again soon.
    """

    def __init__(self, web, paper, many):
        self.ground = web
        self.middle = paper.point
        self.by = paper.by
        self.core = paper.middle
        self.road_back = walk_back(web, 0, paper.by)
        # The numbers of ties: of the road, of the core, and of the road with all cores behind it.
        self.ahead = len(self.by) // 2
        self.core_ties = len(self.core) // 2
        self.cores_end = self.ahead + many * self.core_ties
        self.many = many
        self.seams, self.first = self._seams()

    def ties_number(self):
        """The number of the ties."""
        return self.cores_end + self.ahead

    def tie_at(self, index):
        """The tie with this index, from 0 on."""
        if index < self.ahead:
            return self.by[2 * index + 1]
        if index < self.cores_end:
            return self.core[2 * ((index - self.ahead) % self.core_ties) + 1]
        return self.road_back[2 * (index - self.cores_end) + 1]

    def stay_at(self, index):
        """The stay ahead of the tie with this index, or the last stay."""
        if index < self.ahead:
            stay = stay_behind(self.ground, 0, 0, self.by, index)
        elif index < self.cores_end:
            core, ties = divmod(index - self.ahead, self.core_ties)
            stay = stay_behind(self.ground, self.middle, self._seam(core), self.core, ties)
        else:
            ties = index - self.cores_end
            stay = stay_behind(self.ground, self.middle, self._seam(self.many), self.road_back, ties)
        if index == self.ties_number():
            return stay
        return self.ground.side(self.tie_at(index)).parts[stay][0]

    def _seams(self):
        """What is carried ahead of the first core, of the second one, and so on, as long as this is new.

        Behind them the one comes again whose index is told.
        """
        numbers = {}
        carried = stay_behind(self.ground, 0, 0, self.by, self.ahead)
        while carried not in numbers:
            numbers[carried] = len(numbers)
            carried = stay_behind(self.ground, self.middle, carried, self.core, self.core_ties)
        return tuple(numbers), numbers[carried]

    def _seam(self, index):
        """What is carried ahead of the core with this index, or behind the last one."""
        if index < len(self.seams):
            return self.seams[index]
        return self.seams[self.first + (index - self.first) % (len(self.seams) - self.first)]
