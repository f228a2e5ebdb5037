"""Webs and words that the tests of changes, slides, counts and sums share, and second ways about them."""

from treerooms.base.leading import leadings, room_of_lot
from treerooms.base.rooms import Room, lot_of
from treerooms.webs.webs import Web

from tests.second import any_plain, back, joined, reading_of, winding_word
from tests.support import FOUR, HALVES, IDLE, SIX, THREE, TWO

ALONE = Room(1, ())
# A room of two members on three points, so that rooms of one kind need not be equal.
ODD_TWO = Room(3, ((1, 0, 2),))
ROUND_SIX = Room(5, ((1, 2, 0, 4, 3),))
SMALL_ROOMS = (ALONE, TWO, ODD_TWO, THREE, FOUR, HALVES, SIX, ROUND_SIX, Room.round(6))


def some_pairs_of(chance, one, other):
    """Closed pairs of two rooms, often more than one."""
    lot = lot_of(one, tuple(chance.randrange(one.size) for _ in range(chance.randrange(3))))
    found = list(leadings(room_of_lot(one, lot), other))
    if not found:
        return IDLE
    return tuple(sorted(zip(lot, chance.choice(found))))


def some_web(chance, points, size, rooms=SMALL_ROOMS):
    """A web with so many points and ties, at least as many as hang the points together."""
    chosen = tuple(chance.choice(rooms) for _ in range(points))
    ends = [(chance.randrange(point), point) for point in range(1, points)]
    while len(ends) < size:
        ends.append((chance.randrange(points), chance.randrange(points)))
    chance.shuffle(ends)
    ends = [pair if chance.random() < 0.5 else pair[::-1] for pair in ends]
    return Web(chosen, tuple((u, v, some_pairs_of(chance, chosen[u], chosen[v])) for u, v in ends))


def some_webs(seed, many, most_points=4, more_ties=2, rooms=SMALL_ROOMS):
    """Webs of one point and more."""
    chance = chances_of(seed)
    found = []
    for at in range(many):
        points = 1 + at % most_points
        found.append(some_web(chance, points, points - 1 + chance.randrange(more_ties + 1), rooms))
    return found


def chances_of(seed):
    import random
    return random.Random(seed)


def words_of(chance, web, many, ties=6):
    """Words that wind about."""
    return [winding_word(chance, web, chance.randrange(ties + 1)) for _ in range(many)]


def disguised(chance, web, word):
    """A word that is equal to a word, by exchanges and by steps to and fro."""
    reading = reading_of(web)
    for _ in range(4):
        places = range(1, len(word) // 2 + 1)
        if places and chance.random() < 0.7:
            place = chance.choice(places)
            members = list(reading.sides[word[2 * place - 1]][2])
            word = reading.exchanged(word, place, chance.choice(members))
        stops = reading.stops(0, word)
        at = chance.randrange(len(stops))
        ties = reading.beginnings(stops[at])
        if ties and len(word) < 100:
            tie = chance.choice(ties)
            begin, end, pairs = reading.sides[tie]
            member = chance.choice(list(pairs))
            stay = reading.tables[begin][word[2 * at]][reading.contraries[begin][member]]
            word = word[:2 * at] + (stay, tie, pairs[member], -tie, 0) + word[2 * at + 1:]
    return word


def is_needed_tie(web, number):
    """Whether a tie is needed, as [0.11] tells it."""
    begin, end, pairs = web.ties[number - 1]
    carried = [{a for a, _ in pairs}, {b for _, b in pairs}]
    whole = [set(range(web.rooms[begin].size)), set(range(web.rooms[end].size))]
    return begin == end or (carried[0] != whole[0] and carried[1] != whole[1])


def told(web, tie):
    """The begin, the end and the pairs of a directed tie."""
    begin, end, pairs = reading_of(web).sides[tie]
    return begin, end, dict(pairs)


def with_side(web, tie, begin, end, pairs):
    """The ties of a web with another one in the place of a directed tie."""
    if tie < 0:
        begin, end, pairs = end, begin, {b: a for a, b in pairs.items()}
    ties = list(web.ties)
    ties[abs(tie) - 1] = (begin, end, tuple(sorted(pairs.items())))
    return tuple(ties)


def put_through(web, goal, word, point_of, stays, steps):
    """A word of a web, led to another one: each stay by `stays(point, member)`, each tie by `steps(tie)`, roads there."""
    reading = reading_of(web)
    stops = reading.stops(0, word)
    made = None
    for at, entry in enumerate(word):
        part = stays(stops[at // 2], entry) if at % 2 == 0 else steps(entry)
        if made is None:
            made = part
            continue
        # The part begins where the road is now.
        point = point_of(stops[(at + 1) // 2 if at % 2 == 0 else at // 2])
        table = reading_of(goal).tables[point]
        made = made[:-1] + (table[made[-1]][part[0]],) + part[1:]
    return made


def product_of(web, *words):
    return any_plain(web, joined(web, *words))


def contrary_of(web, word):
    return any_plain(web, back(web, word))
