"""Second ways to work out worlds and stocks, close to the words of the document.

Nothing here rests on the modules of worlds; rooms and ties are read off a web
by `Reading`.
"""

import itertools
import math
from fractions import Fraction

from tests.support import Reading

READINGS = {}
PARTS = {}


def reading_of(web):
    """The reading of a web, made once for each web."""
    if id(web) not in READINGS:
        READINGS[id(web)] = (web, Reading(web))
    return READINGS[id(web)][1]


def partings(web, tie):
    """For each member g = r a ahead of a tie the pair of r and what a is carried to."""
    reading = reading_of(web)
    begin, _, pairs = reading.sides[tie]
    table, parts = reading.tables[begin], {}
    for member in range(web.rooms[begin].size):
        least = min(table[member][a] for a in pairs)
        parts[member] = (least, next(pairs[a] for a in pairs if table[least][a] == member))
    return parts


def any_plain(web, road):
    """The plain form of a road from the point 0 with any number of ties, found from the left as in [5.2]."""
    reading = reading_of(web)
    done, stay = [], road[0]
    for at in range(1, len(road), 2):
        tie = road[at]
        if (id(web), tie) not in PARTS:
            PARTS[id(web), tie] = partings(web, tie)
        least, carried = PARTS[id(web), tie][stay]
        table = reading.tables[reading.sides[tie][1]]
        if least == 0 and done and done[-1][1] == -tie:
            carried = table[done.pop()[0]][carried]
        else:
            done.append((least, tie))
        stay = table[carried][road[at + 1]]
    return tuple(entry for pair in done for entry in pair) + (stay,)


def joined(web, *roads):
    """Roads behind one another, the first one from the point 0."""
    reading = reading_of(web)
    done = roads[0]
    for road in roads[1:]:
        point = reading.end(0, done)
        done = done[:-1] + (reading.tables[point][done[-1]][road[0]],) + road[1:]
    return done


def back(web, road):
    """A road from the point 0, gone back."""
    reading = reading_of(web)
    stops = reading.stops(0, road)
    row = []
    for at, entry in enumerate(road):
        row.append(reading.contraries[stops[at // 2]][entry] if at % 2 == 0 else -entry)
    return tuple(row[::-1])


def turned(web, word, by):
    """The plain form of by word by^-1."""
    return any_plain(web, joined(web, by, word, back(web, by)))


class Cloth:
    """Spots in lots, put together by looking through all of them again and again."""

    def __init__(self, web):
        self.web, self.reading = web, reading_of(web)
        self.points, self.heads, self.firsts = [], [], []
        self.pairs = {tie: [] for tie in self.reading.sides}
        self.bring(0)

    def bring(self, point):
        first = len(self.heads)
        for _ in range(self.web.rooms[point].size):
            self.points.append(point)
            self.firsts.append(first)
            self.heads.append(len(self.heads))
        return first

    def head(self, spot):
        while self.heads[spot] != spot:
            spot = self.heads[spot]
        return spot

    def led(self, spot, member):
        first, point = self.firsts[spot], self.points[spot]
        return self.head(first + self.reading.tables[point][spot - first][member])

    def partner(self, tie, spot):
        for one, other in self.pairs[tie]:
            if self.head(one) == self.head(spot):
                return self.head(other)
        return None

    def pair(self, tie, spot, other):
        for a, b in self.reading.sides[tie][2].items():
            self.pairs[tie].append((self.led(spot, a), self.led(other, b)))
            self.pairs[-tie].append((self.led(other, b), self.led(spot, a)))

    def unite(self, one, other):
        one, other = self.head(one), self.head(other)
        self.heads[max(one, other)] = min(one, other)
        return one != other

    def settle(self):
        """Put together whatever follows, until nothing changes."""
        changed = True
        while changed:
            changed = False
            for spot in range(len(self.heads)):
                if self.head(spot) != spot:
                    for member in range(self.web.rooms[self.points[spot]].size):
                        changed |= self.unite(self.led(spot, member), self.led(self.head(spot), member))
            for tie in self.pairs:
                goals = {}
                for one, other in self.pairs[tie]:
                    goal = goals.setdefault(self.head(one), other)
                    changed |= self.unite(goal, other)

    def walk(self, form):
        spot = self.led(0, form[0])
        for at in range(1, len(form), 2):
            goal = self.partner(form[at], spot)
            if goal is None:
                goal = self.bring(self.reading.sides[form[at]][1])
                self.pair(form[at], spot, goal)
            spot = self.led(goal, form[at + 1])
        self.unite(spot, 0)
        self.settle()


class Figure:
    """A world as dicts: moves[(point, spot)][member] and pairs[tie][(point, spot)]."""

    def __init__(self, web, moves, pairs):
        self.web, self.reading, self.moves, self.pairs = web, reading_of(web), moves, pairs

    def lot(self, spot):
        return frozenset(self.moves[spot])

    def stays(self, spot):
        return {member for member, goal in enumerate(self.moves[spot]) if goal == spot}

    def can_go(self, lot):
        """Whether a lot is one that is left out of a core."""
        ties = [tie for tie in self.pairs if any(spot in self.pairs[tie] for spot in lot)]
        if len(ties) != 1:
            return False
        pairs = self.reading.sides[ties[0]][2]
        paired = [spot for spot in lot if spot in self.pairs[ties[0]]]
        if {self.moves[paired[0]][a] for a in pairs} != set(paired):
            return False
        return all(self.stays(spot) <= set(pairs) for spot in paired)

    def without(self, lot):
        moves = {spot: row for spot, row in self.moves.items() if spot not in lot}
        pairs = {
            tie: {one: other for one, other in row.items() if one not in lot and other not in lot}
            for tie, row in self.pairs.items()
        }
        return Figure(self.web, moves, pairs)

    def pared(self, begin):
        """What is left; the lot with the begin stays, if that is not None."""
        figure = self
        while True:
            lots = {figure.lot(spot) for spot in figure.moves}
            going = [lot for lot in lots if begin not in lot and figure.can_go(lot) and len(lots) > 1]
            if not going:
                return figure
            figure = figure.without(min(going, key=sorted))

    def numbered(self, begin):
        """The moves and pairs of the spots as they are met from the begin."""
        met = [begin]
        for spot in met:
            around = list(self.moves[spot])
            for tie in self.reading.beginnings(spot[0]):
                if spot in self.pairs[tie]:
                    around.append(self.pairs[tie][spot])
            for goal in around:
                if goal not in met:
                    met.append(goal)
        names = {spot: sum(one[0] == spot[0] for one in met[:at]) for at, spot in enumerate(met)}
        moves = []
        for point, room in enumerate(self.web.rooms):
            here = [spot for spot in met if spot[0] == point]
            moves.append(tuple(tuple(names[self.moves[spot][member]] for spot in here) for member in range(room.size)))
        pairs = []
        for tie in range(1, self.web.size + 1):
            pairs.append(tuple(sorted((names[one], names[other]) for one, other in self.pairs[tie].items())))
        return tuple(moves), tuple(pairs)


def figure_of(world):
    """The figure of a world."""
    moves = {}
    for point, rows in enumerate(world.moves):
        for spot in range(len(rows[0])):
            moves[point, spot] = [(point, row[spot]) for row in rows]
    pairs = {}
    for number, row in enumerate(world.pairs, start=1):
        begin, end, _ = world.web.ties[number - 1]
        pairs[number] = {(begin, one): (end, other) for one, other in row}
        pairs[-number] = {(end, other): (begin, one) for one, other in row}
    return Figure(world.web, moves, pairs)


def core_parts(web, words):
    """The moves and pairs of the core of the stock of some words."""
    cloth = Cloth(web)
    for word in words:
        cloth.walk(any_plain(web, word))
    heads = [spot for spot in range(len(cloth.heads)) if cloth.head(spot) == spot]
    name = {spot: (cloth.points[spot], spot) for spot in heads}
    moves = {
        name[spot]: [name[cloth.led(spot, member)] for member in range(web.rooms[cloth.points[spot]].size)] for spot in heads
    }
    pairs = {
        tie: {name[cloth.head(one)]: name[cloth.head(other)] for one, other in row} for tie, row in cloth.pairs.items()
    }
    return Figure(web, moves, pairs).pared(name[0]).numbered(name[0])


def walk(world, point, spot, road):
    """Where a spot is walked, as a pair (point, spot); None if a pair lacks."""
    spot = world.moves[point][road[0]][spot]
    for at in range(1, len(road), 2):
        number = abs(road[at])
        goals = [
            (other, one) if road[at] < 0 else (one, other) for one, other in world.pairs[number - 1]
        ]
        goals = dict(goals)
        if spot not in goals:
            return None
        point = reading_of(world.web).sides[road[at]][1]
        spot = world.moves[point][road[at + 1]][goals[spot]]
    return point, spot


def fraction_of(web):
    """The fraction of a web, as a Fraction."""
    return sum(Fraction(1, room.size) for room in web.rooms) - sum(Fraction(1, len(pairs)) for _, _, pairs in web.ties)


def is_good_world(web, moves, pairs):
    """Whether moves and pairs of the form of a world go along with products and ties."""
    reading = reading_of(web)
    for table, rows in zip(reading.tables, moves):
        for one, other in itertools.product(range(len(rows)), repeat=2):
            if any(rows[other][rows[one][spot]] != rows[table[one][other]][spot] for spot in range(len(rows[0]))):
                return False
    for (begin, end, tie_pairs), row in zip(web.ties, pairs):
        for (one, other), (a, b) in itertools.product(row, tie_pairs):
            if (moves[begin][a][one], moves[end][b][other]) not in row:
                return False
    return True


def least_multiple(web):
    return math.lcm(*[room.size for room in web.rooms])


def some_ways(chance, room, many):
    """Moves of so many spots by a room: left lots of some lots, side by side, with the spots' names mixed."""
    from treerooms.base.rooms import left_lots, lots
    rows = [[] for _ in range(room.size)]
    choices = lots(room)
    while len(rows[0]) < many:
        lot = chance.choice([lot for lot in choices if room.size // len(lot) <= many - len(rows[0])])
        # Right cosets: contraries of left lots, moved from the right.
        blocks = [frozenset(room.contrary(one) for one in block) for block in left_lots(room, lot)]
        start = len(rows[0])
        for member in range(room.size):
            rows[member].extend(
                start + blocks.index(frozenset(room.product(one, member) for one in block)) for block in blocks
            )
    names = list(range(many))
    chance.shuffle(names)
    mixed = []
    for row in rows:
        goals = [0] * many
        for spot in range(many):
            goals[names[spot]] = names[row[spot]]
        mixed.append(tuple(goals))
    return tuple(mixed)


def winding_word(chance, web, ties):
    """A word that walks about for so many ties, with any stays, and then goes home."""
    reading = reading_of(web)
    far = {0: 0}
    for point in list(range(web.points)) * web.points:
        for tie in reading.beginnings(point):
            end = reading.sides[tie][1]
            if end in far:
                far[point] = min(far.get(point, 99), far[end] + 1)
    road, point = [chance.randrange(web.rooms[0].size)], 0
    while len(road) < 2 * ties or point != 0:
        choices = reading.beginnings(point)
        if not choices:
            break
        if len(road) >= 2 * ties:
            choices = [tie for tie in choices if far[reading.sides[tie][1]] < far[point]]
        tie = chance.choice(choices)
        point = reading.sides[tie][1]
        road += [tie, chance.randrange(web.rooms[point].size)]
    return tuple(road)


def stock_words(chance, web, many, ties):
    """Words of some sorts: winding ones, members turned, powers, and products of those ahead of them."""
    words = []
    for _ in range(many):
        word = winding_word(chance, web, chance.randrange(ties + 1))
        sort = chance.randrange(5)
        if sort == 0 and words:
            word = joined(web, word, chance.choice(words))
        elif sort == 1:
            word = joined(web, word, (chance.randrange(web.rooms[0].size),), back(web, word))
        elif sort == 2 and len(word) < 40:
            word = joined(web, word, word)
        elif sort == 3 and words:
            word = turned(web, chance.choice(words), word)
        words.append(any_plain(web, word))
    return tuple(word for word in words if len(word) <= 121)


def block_of(web, number, moves, one, other):
    """The pairs of spots that follow from a pair at a tie."""
    begin, end, pairs = web.ties[number - 1]
    return {(moves[begin][a][one], moves[end][b][other]) for a, b in pairs}


def some_pairs(chance, web, number, moves, tries):
    """Pairs of spots at a tie that go along with its pairs, ascending."""
    begin, end, _ = web.ties[number - 1]
    found = set()
    for _ in range(tries):
        if not moves[begin][0] or not moves[end][0]:
            break
        block = block_of(web, number, moves, chance.choice(moves[begin][0]), chance.choice(moves[end][0]))
        whole = found | block
        if len({one for one, _ in whole}) == len(whole) == len({other for _, other in whole}):
            found = whole
    return tuple(sorted(found))


def some_world(chance, web, most, tries=12):
    """Moves and pairs of a world with at most so many spots at each point."""
    moves = tuple(some_ways(chance, room, chance.randrange(most + 1)) for room in web.rooms)
    return moves, tuple(some_pairs(chance, web, number, moves, tries) for number in range(1, web.size + 1))


def free_ways(room, many):
    """Free lots of a room one after the other, with so many spots."""
    return tuple(
        tuple(start + room.product(one, member) for start in range(0, many, room.size) for one in range(room.size))
        for member in range(room.size)
    )


def full_pairs(chance, web, number, moves):
    """Pairs of all spots at a tie of a free world with equally many spots at each point, ascending."""
    begin, end, _ = web.ties[number - 1]
    ones, others = list(moves[begin][0]), list(moves[end][0])
    found = set()
    while ones:
        found |= block_of(web, number, moves, chance.choice(ones), chance.choice(others))
        ones = [spot for spot in ones if spot not in {one for one, _ in found}]
        others = [spot for spot in others if spot not in {other for _, other in found}]
    return tuple(sorted(found))


def full_free_parts(chance, web, many):
    """Moves and pairs of a full free world with so many spots at each point."""
    moves = tuple(free_ways(room, many) for room in web.rooms)
    return moves, tuple(full_pairs(chance, web, number, moves) for number in range(1, web.size + 1))


def is_full_of(web, moves, pairs):
    """Whether each spot of both ends of each tie is in a pair."""
    return all(
        {one for one, _ in row} == set(moves[begin][0]) and {other for _, other in row} == set(moves[end][0])
        for (begin, end, _), row in zip(web.ties, pairs)
    )


def is_free_of(moves):
    """Whether no member but 0 leaves a spot."""
    return all(row[spot] != spot for rows in moves for row in rows[1:] for spot in rows[0])


def pieces(web, moves, pairs):
    """The spots (point, spot) in parts that hang together."""
    figure = {(point, spot): [(point, row[spot]) for row in rows] for point, rows in enumerate(moves) for spot in rows[0]}
    for (begin, end, _), row in zip(web.ties, pairs):
        for one, other in row:
            figure[begin, one].append((end, other))
            figure[end, other].append((begin, one))
    found = []
    while figure:
        part, waiting = set(), [min(figure)]
        while waiting:
            spot = waiting.pop()
            if spot not in part:
                part.add(spot)
                waiting += figure.pop(spot)
        found.append(part)
    return found


def tree_roads(web):
    """For each point a road there from the point 0 with the stay 0 everywhere."""
    reading, roads = reading_of(web), {0: (0,)}
    for _ in range(web.points):
        for point in list(roads):
            for tie in reading.beginnings(point):
                roads.setdefault(reading.sides[tie][1], roads[point] + (tie, 0))
    return roads


def all_makers(web):
    """Words that make all words: members of all rooms, and one round for each tie."""
    roads = tree_roads(web)
    words = [joined(web, roads[point], (member,), back(web, roads[point])) for point in roads for member in range(1, web.rooms[point].size)]
    for tie, (begin, end, _) in sorted(reading_of(web).sides.items()):
        words.append(joined(web, roads[begin], (0, tie, 0), back(web, roads[end])))
    return sorted({any_plain(web, word) for word in words} - {(0,)})


def sets_of_words(web, has, most):
    """One word for each set w s, found from the words that make all words; None if they are more than `most`.

    `has` tells whether a plain word is in the stock.
    """
    found, makers = [(0,)], all_makers(web)
    for word in found:
        for maker in makers:
            more = any_plain(web, joined(web, maker, word))
            if not any(has(any_plain(web, joined(web, back(web, one), more))) for one in found):
                found.append(more)
                if len(found) > most:
                    return None
    return found


def stock_makers(world):
    """Words that make the stock of those that lead the spot 0 of the point 0 of a world to itself.

    They go around by each pair that is not used to meet a spot first, and by each member.
    """
    web = world.web
    figure, roads = figure_of(world), {(0, 0): (0,)}
    waiting, words = [(0, 0)], set()
    for spot in waiting:
        steps = [((member,), goal) for member, goal in enumerate(figure.moves[spot])]
        for tie in reading_of(web).beginnings(spot[0]):
            if spot in figure.pairs[tie]:
                steps.append(((0, tie, 0), figure.pairs[tie][spot]))
        for step, goal in steps:
            road = any_plain(web, joined(web, roads[spot], step))
            if goal not in roads:
                roads[goal] = road
                waiting.append(goal)
            else:
                words.add(any_plain(web, joined(web, road, back(web, roads[goal]))))
    return sorted(words - {(0,)}, key=lambda word: (len(word), word))


def few_stock_makers(world):
    """At most five words with at most 60 ties that make the stock of a world, found by naive cores; None if none are found."""
    chosen, wanted = [], None
    makers = [word for word in stock_makers(world) if len(word) <= 121]
    goal = figure_of(world).pared((0, 0)).numbered((0, 0))
    for word in makers:
        if len(chosen) == 5:
            return None
        parts = core_parts(world.web, chosen + [word])
        if parts != wanted:
            chosen.append(word)
            wanted = parts
        if parts == goal:
            return tuple(chosen)
    return () if goal == core_parts(world.web, ()) else None


def finite_stock(web, words, most=24):
    """All words of a stock, None if they are more than `most`."""
    found = [(0,)]
    for one in found:
        for word in words:
            more = any_plain(web, joined(web, one, word))
            if more not in found:
                found.append(more)
                if len(found) > most:
                    return None
    return found
