"""Free lots of spots, walked along words, tied and put together."""


class Folding:
    """Spots that are brought in free lots, and put together; the spot 0 is the begin.

    A spot is told by its number in the sequence in which the lots were
    brought. Of spots that were put together the least one is the head; only
    heads have partners at ties.
    """

    def __init__(self, ground):
        self.ground = ground
        # For each spot the point at which it is, the first spot of its lot, and a spot that it was put together with.
        self.places = []
        self.starts = []
        self.heads = []
        self.partners = {}
        for tie in range(1, ground.size + 1):
            self.partners[tie] = {}
            self.partners[-tie] = {}
        self.bring(0)

    def bring(self, point):
        """Bring a free lot of spots at a point; its first spot."""
        start = len(self.heads)
        many = self.ground.rooms[point].size
        self.places.extend([point] * many)
        self.starts.extend([start] * many)
        self.heads.extend(list(range(start, start + many)))
        return start

    def head(self, spot):
        """The head of the spots that a spot was put together with."""
        found = spot
        while self.heads[found] != found:
            found = self.heads[found]
        while self.heads[spot] != found:
            above = self.heads[spot]
            self.heads[spot] = found
            spot = above
        return found

    def led(self, spot, member):
        """The head of the spot to which a member moves a spot."""
        start = self.starts[spot]
        return self.head(start + self.ground.rooms[self.places[spot]].table[spot - start][member])

    def lot_around(self, point, spot):
        """The heads of the spots to which the members of the room at the point move a spot."""
        start = self.starts[spot]
        return [self.head(start + member) for member in self.ground.rooms[point].table[spot - start]]

    def partner(self, tie, spot):
        """The head of the spot with which a head is paired at a directed tie, None if there is none."""
        found = self.partners[tie].get(spot)
        return None if found is None else self.head(found)

    def tie_up(self, tie, spot, other):
        """Pair two spots at a directed tie, and what follows."""
        side = self.ground.side(tie)
        clashes = []
        for member in side.within:
            one, two = self.led(spot, member), self.led(other, side.carries[member])
            clashes.extend(self.pair_heads(tie, one, two))
            clashes.extend(self.pair_heads(-tie, two, one))
        self.put_together(clashes)

    def pair_heads(self, tie, one, two):
        """Pair a head with another one; what it was paired with before, beside this one."""
        before = self.partners[tie].get(one)
        if before is None:
            self.partners[tie][one] = two
            return []
        return [(before, two)]

    def put_together(self, pairs):
        """Put the spots of each pair together, and what follows."""
        waiting = list(pairs)
        while waiting:
            one, two = waiting.pop()
            if self.head(one) != self.head(two):
                # The moves of both follow at once, so that only pairs are left to be put together.
                for member in range(self.ground.rooms[self.places[one]].size):
                    waiting.extend(self.unite(self.led(one, member), self.led(two, member)))

    def unite(self, one, two):
        """Make two heads one; the pairs of spots that are to be put together then."""
        if one == two:
            return []
        least, other = min(one, two), max(one, two)
        self.heads[other] = least
        clashes = []
        for tie in self.ground.beginnings(self.places[least]):
            goal = self.partners[tie].get(other)
            if goal is not None:
                clashes.extend(self.pair_heads(tie, least, goal))
        return clashes


def walk_on(folding, form):
    """Walk a plain word from the begin as far as there are pairs.

    The spot ahead of the tie where a pair lacks, or of the end of the word,
    and the number of ties that were walked.
    """
    spot = folding.led(0, form[0])
    walked = 0
    while 2 * walked + 1 < len(form):
        goal = folding.partner(form[2 * walked + 1], spot)
        if goal is None:
            return spot, walked
        spot = folding.led(goal, form[2 * walked + 2])
        walked += 1
    return spot, walked


def walk_back_to(folding, form, least):
    """Walk a plain word back from the begin, but at most until so many ties are ahead.

    The spot that is reached behind a tie, and the number of the ties that are ahead of it.
    """
    room = folding.ground.rooms[0]
    spot = folding.led(0, room.contraries[form[-1]])
    left = len(form) // 2
    while left > least:
        goal = folding.partner(-form[2 * left - 1], spot)
        if goal is None:
            return spot, left
        room = folding.ground.rooms[folding.places[goal]]
        spot = folding.led(goal, room.contraries[form[2 * left - 2]])
        left -= 1
    return spot, left


def close_word(folding, form):
    """Let a plain word be walked from the begin to the begin."""
    spot, walked = walk_on(folding, form)
    if 2 * walked + 1 == len(form):
        folding.put_together([(spot, 0)])
        return
    # What is there already is walked from both ends; new lots are brought for the stays between.
    last, left = walk_back_to(folding, form, walked + 1)
    for at in range(walked + 1, left):
        tie = form[2 * at - 1]
        goal = folding.bring(folding.ground.side(tie).target)
        folding.tie_up(tie, spot, goal)
        spot = folding.led(goal, form[2 * at])
    folding.tie_up(form[2 * left - 1], spot, last)


def folded(web, forms):
    """The folding of plain words, each of which is walked there from the begin to the begin."""
    folding = Folding(web)
    for form in forms:
        close_word(folding, form)
    return folding
