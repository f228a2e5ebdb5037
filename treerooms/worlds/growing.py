"""Free lots of spots that are paired so that they hang together."""

from treerooms.worlds.spots import filled_parts, goals_of


class Growth:
    """Free lots of spots that hang together without rounds.

    At each point the spots of the least numbers are met first.
    """

    def __init__(self, web, many):
        self.ground = web
        self.most = many
        self.met = [0] * web.points
        self.goals = goals_of(((),) * web.size)
        # For each lot that was met a spot of each lot of a tie's members, with the tie.
        self.waiting = []
        self.meet_lot(0)

    def meet_lot(self, point):
        """Meet the next lot at a point; its first spot."""
        start = self.met[point]
        room = self.ground.rooms[point]
        self.met[point] += room.size
        for tie in self.ground.beginnings(point):
            self.waiting.extend([(tie, start + least) for least in self.ground.side(tie).leasts])
        return start

    def pair(self, tie, spot, goal):
        """Pair two spots at a directed tie, and what follows."""
        side = self.ground.side(tie)
        for member in side.within:
            one = self.spot_led(side.source, spot, member)
            two = self.spot_led(side.target, goal, side.carries[member])
            self.goals[tie][one] = two
            self.goals[-tie][two] = one

    def spot_led(self, point, spot, member):
        """The spot to which a member moves a spot."""
        room = self.ground.rooms[point]
        within = spot % room.size
        return spot - within + room.table[within][member]

    def grow(self):
        """Meet new lots from those that were met, as long as some lack."""
        at = 0
        while at < len(self.waiting):
            tie, spot = self.waiting[at]
            point = self.ground.side(tie).target
            if spot not in self.goals[tie] and self.met[point] < self.most:
                self.pair(tie, spot, self.meet_lot(point))
            at += 1


def grown_parts(web, many):
    """The moves and pairs of a full free world with so many spots at each point that hangs together.

    There is one exactly if the number of members of each room divides `many`,
    and the fraction is at most 0, or `many` is the number of all words.
    """
    growth = Growth(web, many)
    growth.grow()
    # If the fraction is at most 0, a piece without rounds has a tie to a further lot as long as there is one.
    pairs = tuple([tuple(sorted(growth.goals[tie].items())) for tie in range(1, web.size + 1)])
    return filled_parts(web, tuple([((),) * room.size for room in web.rooms]), pairs, many)
