"""Worlds of the spots that are met from a begin, numbered as they are met."""

from treerooms.worlds.worlds import MadeWorld


class Meeting:
    """Spots in the sequence in which they are met, and their numbers at their points."""

    def __init__(self, web):
        self.ground = web
        self.found = []
        self.spot_numbers = {}
        self.counts = [0] * web.points
        # Each lot with its point: the spots to which the members lead the one that was met first.
        self.lots_met = []
        self.in_lots = {}
        self.links = {tie: [] for tie in range(1, web.size + 1)}

    def meet(self, point, spot):
        """Give a spot at a point the next number there, if it is met for the first time."""
        if spot not in self.spot_numbers:
            self.spot_numbers[spot] = self.counts[point]
            self.counts[point] += 1
            self.found.append((point, spot))

    def meet_lot(self, point, lot):
        """Meet all spots of a lot, which are told in the sequence of the members that lead there."""
        self.lots_met.append((point, lot))
        for spot in lot:
            self.in_lots[spot] = True
            self.meet(point, spot)

    def moves_met(self):
        """For each point and each member the permutation of the numbers of the spots."""
        rows = [[()] * count for count in self.counts]
        for point, lot in self.lots_met:
            numbers = [self.spot_numbers[spot] for spot in lot]
            for number, line in zip(numbers, self.ground.rooms[point].table):
                rows[point][number] = [numbers[member] for member in line]
        return tuple([
            tuple(zip(*lines)) if lines else ((),) * room.size
            for room, lines in zip(self.ground.rooms, rows)
        ])

    def pairs_met(self):
        """For each tie the pairs of the numbers of the spots, ascending."""
        numbers = self.spot_numbers
        return tuple([
            tuple(sorted([(numbers[one], numbers[goal]) for one, goal in row])) for row in self.links.values()
        ])


def look_around(spots, meeting, point, spot):
    """Meet the spots to which the members move a spot, and those that it is paired with."""
    if spot not in meeting.in_lots:
        meeting.meet_lot(point, spots.lot_around(point, spot))
    for tie, goal_point in meeting.ground.exits[point].items():
        goal = spots.partner(tie, spot)
        if goal is not None:
            meeting.meet(goal_point, goal)
            if tie > 0:
                meeting.links[tie].append((spot, goal))


def met_world(web, spots, begin, most):
    """The world of all spots that are met from the begin, None if they are more than `most`.

    The begin is at the point 0. `spots` tells what each spot is led to and
    paired with. `most` is None where any number will do.
    """
    meeting = Meeting(web)
    meeting.meet(0, begin)
    at = 0
    while at < len(meeting.found):
        point, spot = meeting.found[at]
        look_around(spots, meeting, point, spot)
        if most is not None and len(meeting.found) > most:
            return None
        at += 1
    return MadeWorld(web, meeting.moves_met(), meeting.pairs_met())


class KeptSpots:
    """The spots (point, spot) of a world that are in lots that are kept."""

    def __init__(self, frame, kept):
        self.frame = frame
        self.remain = kept

    def lot_around(self, point, spot):
        """The spots to which the members of the room at the point move a spot."""
        return [(point, row[spot[1]]) for row in self.frame.world.moves[point]]

    def partner(self, tie, spot):
        """The kept spot with which a spot is paired at a directed tie, None if there is none."""
        world = self.frame.world
        goal = world.paired(tie, spot[1])
        point = world.web.side(tie).target
        if goal is None or not self.remain[self.frame.homes[point][goal]]:
            return None
        return point, goal


class PairedSpots:
    """The pairs of spots (point, spot, spot) of two worlds of one web."""

    def __init__(self, one, other):
        self.one = one
        self.other = other

    def lot_around(self, point, spot):
        """The pairs to which the members of the room at the point move both spots."""
        _, first, second = spot
        return [
            (point, row[first], other_row[second])
            for row, other_row in zip(self.one.moves[point], self.other.moves[point])
        ]

    def partner(self, tie, spot):
        """The pair with which both spots are paired at a directed tie, None if one of both is not."""
        _, first, second = spot
        goal, other_goal = self.one.paired(tie, first), self.other.paired(tie, second)
        if goal is None or other_goal is None:
            return None
        return self.one.web.side(tie).target, goal, other_goal
