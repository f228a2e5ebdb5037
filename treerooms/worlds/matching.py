"""What is left of the cores of long stocks, and how the spots of one are matched with those of another one."""

from treerooms.webs.walks import joined_walk, plain_walk, walk_back
from treerooms.worlds.frames import Frame, end_of_line, is_any_block_kept, kept_ends, kept_lots, roads_to_lots


class Rest:
    """What is left of a core when lots are left out, also that with the begin."""

    def __init__(self, core):
        self.frame = Frame(core)
        self.remain = kept_lots(self.frame, None)
        numbers = range(len(self.frame.lots))
        self.ends = [kept_ends(self.frame, self.remain, number) for number in numbers]
        self.shapes = [self._shape(number) for number in numbers]

    def _shape(self, number):
        """What two lots that are matched have in common, None for one that is left out."""
        if not self.remain[number]:
            return None
        lot = self.frame.lots[number]
        ends = [(way * self.frame.blocks[block].tie, self.frame.blocks[block].many) for block, way in self.ends[number]]
        return lot.point, len(lot.stays), tuple(sorted(ends))

    def is_long(self):
        """Whether pairs are left."""
        return is_any_block_kept(self.frame, self.remain)

    def lots_by_shape(self):
        """The numbers of the lots that are left, by their shapes."""
        found = {}
        for number, shape in enumerate(self.shapes):
            if shape is not None:
                found.setdefault(shape, []).append(number)
        return found

    def stays_of(self, point, spot):
        """The members that leave a spot."""
        rows = self.frame.world.moves[point]
        return tuple([member for member in range(len(rows)) if rows[member][spot] == spot])

    def spots_of(self, number):
        """The spots of a lot."""
        homes = self.frame.homes[self.frame.lots[number].point]
        return [spot for spot, home in enumerate(homes) if home == number]


def matched_spot(one, other):
    """A lot of `one` and a spot of `other` that matches its least spot, None if both are not one world."""
    shapes, others = one.lots_by_shape(), other.lots_by_shape()
    if not have_equal_sizes(shapes, others):
        return None
    rarest = min(shapes, key=lambda shape: (len(shapes[shape]), shape))
    start = shapes[rarest][0]
    for number in others[rarest]:
        for spot in other.spots_of(number):
            if are_matched(one, other, start, spot):
                return start, spot
    return None


def have_equal_sizes(shapes, others):
    """Whether both dicts have lists of equal lengths for the same shapes."""
    if len(shapes) != len(others):
        return False
    return all([len(shapes[shape]) == len(others.get(shape, ())) for shape in shapes])


def are_matched(one, other, start, spot):
    """Whether all that is left of both is matched if the least spot of a lot is matched with a spot."""
    if not is_match(one, other, start, spot):
        return False
    images = {start: spot}
    waiting = [start]
    while waiting:
        number = waiting.pop()
        ends = images_at_ends(one, other, number, images[number])
        for goal, lead, image in ends:
            if image is None:
                return False
            point = one.frame.lots[goal].point
            rows = other.frame.world.moves[point]
            if goal not in images:
                images[goal] = rows[one.frame.world.web.rooms[point].contraries[lead]][image]
                waiting.append(goal)
                if not is_match(one, other, goal, images[goal]):
                    return False
            if rows[lead][images[goal]] != image:
                return False
    return True


def is_match(one, other, number, spot):
    """Whether the least spot of a lot and a spot are left by the same members, and have lots of one shape."""
    lot = one.frame.lots[number]
    if other.shapes[other.frame.homes[lot.point][spot]] != one.shapes[number]:
        return False
    return other.stays_of(lot.point, spot) == lot.stays


def images_at_ends(one, other, number, spot):
    """What the ends of the lines of a lot are matched with, if its least spot is matched with a spot.

    For each line the lot to which it leads, the member that leads the least
    spot there to the line's end, and the spot that matches this end.
    """
    found = []
    lot = one.frame.lots[number]
    rows = other.frame.world.moves[lot.point]
    for block_number, way in one.ends[number]:
        block = one.frame.blocks[block_number]
        ahead, behind = (block.spot_lead, block.goal_lead) if way == 1 else (block.goal_lead, block.spot_lead)
        image = other.frame.world.paired(way * block.tie, rows[ahead][spot])
        found.append((end_of_line(block, way), behind, image))
    return found


def word_between_rests(web, one, other):
    """A word c by which the stock of `one`, turned, is that of `other`; None if there is none."""
    found = matched_spot(one, other)
    if found is None:
        return None
    start, spot = found
    point = one.frame.lots[start].point
    home, lead = other.frame.homes[point][spot], other.frame.leads[point][spot]
    ahead = joined_walk(web, 0, roads_to_lots(web, other.frame)[home], (lead,))
    return plain_walk(web, joined_walk(web, 0, ahead, walk_back(web, 0, roads_to_lots(web, one.frame)[start])))
