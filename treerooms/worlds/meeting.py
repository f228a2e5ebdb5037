"""Worlds of the spots that are met from a begin, numbered as they are met."""

from treerooms.worlds.worlds import MadeWorld


class Meeting:
    """Spots in the sequence in which they are met, and their numbers at their points."""

    def __init__(self, web):
        self.found = []
        self.numbers = {}
        # For each point what the members lead its spots to, in the sequence of their numbers.
        self.rows = [[] for _ in web.rooms]
        self.counts = [0] * web.points
        self.links = [[] for _ in web.ties]

    def meet(self, point, spot):
        """Give a spot at a point the next number there, if it is met for the first time."""
        if spot not in self.numbers:
            self.numbers[spot] = self.counts[point]
            self.counts[point] += 1
            self.found.append((point, spot))


def look_around(web, spots, meeting, point, spot):
    """Meet the spots to which the members move a spot, and those that it is paired with."""
    row = [spots.led(spot, member) for member in range(web.rooms[point].size)]
    meeting.rows[point].append(row)
    for goal in row:
        meeting.meet(point, goal)
    for tie in web.beginnings(point):
        goal = spots.partner(tie, spot)
        if goal is not None:
            meeting.meet(web.side(tie).target, goal)
            if tie > 0:
                meeting.links[tie - 1].append((spot, goal))


def met_world(web, spots, begin, most):
    """The world of all spots that are met from the begin, None if they are more than `most`.

    The begin is at the point 0. `spots` tells what each spot is led to and
    paired with. `most` is None where any number will do.
    """
    meeting = Meeting(web)
    meeting.meet(0, begin)
    at = 0
    while at < len(meeting.found):
        point, spot = meeting.found[at]
        look_around(web, spots, meeting, point, spot)
        if most is not None and len(meeting.found) > most:
            return None
        at += 1
    numbers = meeting.numbers
    moves = tuple([
        tuple([tuple([numbers[row[member]] for row in rows]) for member in range(room.size)])
        for room, rows in zip(web.rooms, meeting.rows)
    ])
    pairs = tuple([tuple(sorted([(numbers[one], numbers[other]) for one, other in links])) for links in meeting.links])
    return MadeWorld(web, moves, pairs)


class KeptSpots:
    """The spots (point, spot) of a world that are in lots that are kept."""

    def __init__(self, frame, kept):
        self.frame = frame
        self.remain = kept

    def led(self, spot, member):
        """The spot to which a member moves a spot."""
        point, number = spot
        return point, self.frame.world.moves[point][member][number]

    def partner(self, tie, spot):
        """The kept spot with which a spot is paired at a directed tie, None if there is none."""
        world = self.frame.world
        goal = world.paired(tie, spot[1])
        point = world.web.side(tie).target
        if goal is None or not self.remain[self.frame.homes[point][goal]]:
            return None
        return point, goal


class PairedSpots:
    """The pairs of spots (point, spot, spot) of two worlds of one web."""

    def __init__(self, one, other):
        self.one = one
        self.other = other

    def led(self, spot, member):
        """The pair to which a member moves both spots."""
        point, first, second = spot
        return point, self.one.moves[point][member][first], self.other.moves[point][member][second]

    def partner(self, tie, spot):
        """The pair with which both spots are paired at a directed tie, None if one of both is not."""
        _, first, second = spot
        goal, other_goal = self.one.paired(tie, first), self.other.paired(tie, second)
        if goal is None or other_goal is None:
            return None
        return self.one.web.side(tie).target, goal, other_goal
