"""Rooms, webs, roads and wrong values that the tests share.

What is worked out here rests on permutations, and on the rooms and ties of a
web as they are passed, so that it is a second way to the same results.
"""

import itertools
import random

from treerooms.base.leading import pairs_made
from treerooms.base.rooms import Room
from treerooms.errors import InvalidNumber, InvalidOperation, InvalidRoad, InvalidRoom, InvalidWeb
from treerooms.webs.webs import Web

TWO, THREE, SIX = Room.round(2), Room.round(3), Room.whole(3)
FOUR, HALVES = Room.round(4), Room(4, ((1, 0, 3, 2), (2, 3, 0, 1)))
EIGHT = Room(4, ((1, 2, 3, 0), (2, 1, 0, 3)))
TWELVE = Room(4, ((1, 2, 0, 3), (0, 2, 3, 1)))
WHOLE = Room.whole(4)

ROOMS = {
    "one point": Room(1, ()),
    "six points, idle": Room(6, ()),
    "two": TWO,
    "three": THREE,
    "six": SIX,
    "four": FOUR,
    "halves": HALVES,
    "five": Room.round(5),
    "round six": Room.round(6),
    "apart": Room(4, ((1, 0, 2, 3), (0, 1, 3, 2))),
    "eight": EIGHT,
    "eight by threes": Room(6, ((1, 0, 2, 3, 4, 5), (0, 1, 3, 2, 4, 5), (0, 1, 2, 3, 5, 4))),
    "ten": Room(5, ((1, 2, 3, 4, 0), (0, 4, 3, 2, 1))),
    "twelve": TWELVE,
    "sixteen": Room(6, ((1, 2, 3, 0, 4, 5), (2, 1, 0, 3, 4, 5), (0, 1, 2, 3, 5, 4))),
    "eighteen": Room(6, ((1, 2, 0, 3, 4, 5), (1, 0, 2, 3, 4, 5), (0, 1, 2, 4, 5, 3))),
    "twenty": Room(5, ((1, 2, 3, 4, 0), (0, 2, 4, 1, 3))),
    "whole four": WHOLE,
    "twenty-four of six": Room(6, ((1, 2, 0, 3, 4, 5), (0, 2, 3, 1, 4, 5), (0, 1, 2, 3, 5, 4))),
    "four makers": Room(4, ((1, 0, 2, 3), (0, 2, 1, 3), (0, 1, 3, 2), (0, 1, 2, 3))),
}

IDLE = ((0, 0),)
FREE23 = Web((TWO, THREE), ((0, 1, IDLE),))
FLAT = Web((TWO, TWO), ((0, 1, IDLE),))
LOOP = Web((TWO,), ((0, 0, ((0, 0), (1, 1))),))
DOWN = Web((TWO, FOUR), ((0, 1, ((0, 0), (1, 2))),))
TURNS = Web((THREE,), ((0, 0, ((0, 0), (1, 2), (2, 1))),))
STAR = Web((TWO, TWO, THREE), ((0, 1, IDLE), (0, 2, IDLE)))
# Both rooms share the lot (0, 3, 4), and a tie from a point to itself carries 1 to 2.
SHARED = Web((SIX, SIX), ((1, 0, ((0, 0), (3, 4), (4, 3))), (0, 0, ((0, 0), (1, 2)))))
# The still lot is less than what all ties carry.
DEEP = Web((EIGHT, FOUR), ((0, 1, pairs_made(EIGHT, FOUR, ((EIGHT.number_of((1, 2, 3, 0)), 1),))), (0, 1, IDLE + ((2, 2),))))
LINE = Web((Room(1, ()),), ((0, 0, IDLE),))
WIDE = Web(
    (TWO, FOUR, THREE, HALVES, SIX),
    ((0, 1, ((0, 0), (1, 2))), (1, 2, IDLE), (3, 2, IDLE), (4, 2, ((0, 0), (3, 2), (4, 1))), (0, 4, IDLE + ((1, 5),)), (3, 3, IDLE + ((1, 2),))),
)

WEBS = {
    "free": FREE23, "flat": FLAT, "loop": LOOP, "down": DOWN, "turns": TURNS, "star": STAR,
    "shared": SHARED, "deep": DEEP, "line": LINE, "wide": WIDE,
    "lone": Web.lone(SIX), "lone whole": Web.lone(WHOLE),
    "double": Web((TWO, TWO), ((0, 1, ((0, 0), (1, 1))), (1, 0, IDLE))),
    "pressed": Web((THREE, SIX), ((0, 1, ((0, 0), (1, 4), (2, 3))), (1, 1, IDLE + ((1, 5),)))),
}
# Webs in which few roads are equal, so that all of them can be looked at.
SMALL = {name: WEBS[name] for name in ("free", "flat", "loop", "down", "turns", "star", "line", "double", "pressed")}


def nested(depth):
    """A 1 in tuples, one in another."""
    value = 1
    for _ in range(depth):
        value = (value,)
    return value


# Values that are no integers, of all kinds that can be passed.
NO_INTEGERS = (
    None, True, False, "", "1", "a b" * 1000, (), (0,), (1,), [], [1], {}, {1: 1}, {"a": [1]}, nested(8),
    TWO, FREE23, ((),), ((0, 0),), ([0],), ({},), (None,), ("0",),
)
# Integers that no parameter takes, of up to a hundred digits.
FAR = (10 ** 59, 10 ** 60 - 1, 10 ** 60, 10 ** 99, -10 ** 59, -10 ** 60, -10 ** 99)
# Values that are no rooms, webs, roads, lots or tuples of such.
JUNK = (
    None, True, False, 0, 1, -1, 10 ** 60, 10 ** 99, "", "room", [], [0], [(0, 1)], {}, {0: 0}, {"a": (0,)},
    ("",), (None,), ([0],), ({},), ((None,),), nested(8), [[[[[[[[1]]]]]]]], (10 ** 60,), (-1,), (True,), (False,),
)
# What is only judged can have integers of any length.
JUDGED = JUNK + (10 ** 4000, (10 ** 4000,), ((0, 10 ** 4000),), (0, 10 ** 4000, 0), TWO, FREE23, (TWO,), (FREE23,), (0, TWO))

NO_ROOMS = JUNK + (FREE23, (TWO,), TWO.members, [TWO])
NO_WEBS = JUNK + (TWO, (FREE23,), [FREE23])


def numbers(*values):
    """Each value with the error that tells it."""
    return [(value, InvalidNumber(value)) for value in values + NO_INTEGERS + FAR]


def rooms_wrong():
    return [(value, InvalidRoom("")) for value in NO_ROOMS]


def webs_wrong():
    return [(value, InvalidWeb("")) for value in NO_WEBS]


def operations(*values):
    return [(value, InvalidOperation("")) for value in values + JUNK + (TWO, FREE23)]


def roads_wrong(*values):
    return [(value, InvalidRoad("")) for value in values + JUNK + ((), TWO, FREE23)]


def run(function, arguments):
    """What a call returns; a generator is run to its end."""
    given = function(*arguments)
    return list(given) if hasattr(given, "__next__") else given


def check_error(test, wanted, function, arguments):
    """The call raises just the wanted error, and changes no argument."""
    told = [repr(argument) for argument in arguments]
    with test.assertRaises(type(wanted)) as caught:
        run(function, arguments)
    test.assertIs(type(caught.exception), type(wanted))
    for name in ("given", "most", "reason"):
        if hasattr(wanted, name):
            kept = getattr(caught.exception, name)
            test.assertEqual((type(kept), kept), (type(getattr(wanted, name)), getattr(wanted, name)))
    test.assertEqual(told, [repr(argument) for argument in arguments])


def check_arguments(test, function, valid, wrong):
    """Valid arguments pass, wrong ones are told, of several the first one.

    `wrong` has, for each argument, pairs of a wrong value and its error; an
    argument that is judged has none.
    """
    first = run(function, valid)
    test.assertEqual(run(function, valid), first)
    for at, choices in enumerate(wrong):
        for value, wanted in choices:
            check_error(test, wanted, function, valid[:at] + (value,) + valid[at + 1:])
    for at, later in itertools.combinations(range(len(valid)), 2):
        for value, wanted in wrong[at][:3]:
            for worse, _ in wrong[later][:3]:
                arguments = list(valid)
                arguments[at], arguments[later] = value, worse
                check_error(test, wanted, function, tuple(arguments))


def check_judged(test, judge, ahead, values):
    """The judge refuses each value with False, and raises nothing."""
    for value in values:
        test.assertIs(judge(*ahead, value), False, (judge, str(value)[:80]))


def compose(one, other):
    """The permutation that does `one` first, then `other`."""
    return tuple(other[goal] for goal in one)


def generated(points, makers):
    """All products of permutations, ascending."""
    found = {tuple(range(points))}
    while True:
        more = found | {compose(one, maker) for one in found for maker in makers}
        if more == found:
            return tuple(sorted(found))
        found = more


def closure(room, members):
    """The least lot with some members, by their permutations."""
    made = generated(room.points, [room.members[member] for member in members])
    return tuple(sorted(room.members.index(one) for one in made))


def times(room, one, other):
    """The product of two members, by their permutations."""
    return room.members.index(compose(room.members[one], room.members[other]))


def undone(room, member):
    """The contrary of a member, by its permutation."""
    return room.members.index(tuple(sorted(range(room.points), key=lambda point: room.members[member][point])))


class Reading:
    """A web, read off its rooms and ties alone."""

    def __init__(self, web):
        self.rooms = web.rooms
        self.sides = {}
        for number, (begin, end, pairs) in enumerate(web.ties, start=1):
            self.sides[number] = (begin, end, dict(pairs))
            self.sides[-number] = (end, begin, {b: a for a, b in pairs})
        self.tables = [
            [[times(room, one, other) for other in range(room.size)] for one in range(room.size)] for room in web.rooms
        ]
        self.contraries = [[undone(room, one) for one in range(room.size)] for room in web.rooms]

    def beginnings(self, point):
        return [tie for tie in sorted(self.sides) if self.sides[tie][0] == point]

    def stops(self, point, road):
        """The points of all stays."""
        return [point] + [self.sides[tie][1] for tie in road[1::2]]

    def end(self, point, road):
        return self.stops(point, road)[-1]

    def exchanged(self, road, place, member):
        begin, end, pairs = self.sides[road[2 * place - 1]]
        changed = list(road)
        changed[2 * place - 2] = self.tables[begin][road[2 * place - 2]][self.contraries[begin][member]]
        changed[2 * place] = self.tables[end][pairs[member]][road[2 * place]]
        return tuple(changed)

    def exchanges(self, road):
        """All roads behind one exchange."""
        return [
            self.exchanged(road, place, member)
            for place in range(1, len(road) // 2 + 1)
            for member in self.sides[road[2 * place - 1]][2]
        ]

    def has_pinch(self, road, place):
        tie, stay, behind = road[2 * place - 1:2 * place + 2]
        return behind == -tie and stay in self.sides[behind][2]

    def pinches(self, road):
        return tuple(place for place in range(1, len(road) // 2) if self.has_pinch(road, place))

    def turned_back(self, road, place):
        begin, end, pairs = self.sides[road[2 * place + 1]]
        stay = self.tables[end][road[2 * place - 2]][pairs[road[2 * place]]]
        stay = self.tables[end][stay][road[2 * place + 2]]
        return road[:2 * place - 2] + (stay,) + road[2 * place + 3:]

    def by_exchanges(self, road):
        """All roads to which exchanges alone lead."""
        found, waiting = {road}, [road]
        while waiting:
            for more in self.exchanges(waiting.pop()):
                if more not in found:
                    found.add(more)
                    waiting.append(more)
        return found

    def shortest(self, road):
        """All equal roads without a pinch."""
        while self.pinches(road):
            road = self.turned_back(road, self.pinches(road)[0])
        return self.by_exchanges(road)

    def is_road(self, point, road):
        """Whether a tuple of integers is a road from the point."""
        if len(road) % 2 == 0:
            return False
        at = point
        for spot, entry in enumerate(road):
            if spot % 2 == 0 and not 0 <= entry < self.rooms[at].size:
                return False
            if spot % 2 == 1:
                if entry not in self.sides or self.sides[entry][0] != at:
                    return False
                at = self.sides[entry][1]
        return True

    def leasts(self, tie):
        """The least members of all left lots by the lot of the tie."""
        begin, _, pairs = self.sides[tie]
        return sorted({min(self.tables[begin][one][a] for a in pairs) for one in range(self.rooms[begin].size)})

    def is_plain(self, point, road):
        """Whether a road from the point is plain."""
        if self.pinches(road):
            return False
        return all(road[spot - 1] in self.leasts(road[spot]) for spot in range(1, len(road), 2))

    def all_roads(self, point, ties):
        """All roads from the point with so many ties."""
        rows = [((), point)]
        for _ in range(ties):
            rows = [
                (row + (stay, tie), self.sides[tie][1])
                for row, at in rows for stay in range(self.rooms[at].size) for tie in self.beginnings(at)
            ]
        return [row + (stay,) for row, at in rows for stay in range(self.rooms[at].size)]

    def some_road(self, chance, point, ties):
        """A road from the point, with turns in many places."""
        road, at = [], point
        for _ in range(ties):
            road.append(chance.choice([0, chance.randrange(self.rooms[at].size)]))
            choices = self.beginnings(at)
            if len(road) > 2 and chance.random() < 0.4:
                choices = [-road[-2]]
            if not choices:
                return (road[0],)
            road.append(chance.choice(choices))
            at = self.sides[road[-1]][1]
        road.append(chance.randrange(self.rooms[at].size))
        return tuple(road)

    def some_word(self, chance, ties):
        """A word with at most so many ties."""
        road = self.some_road(chance, 0, ties)
        while self.end(0, road) != 0:
            road = road[:-2]
        return road


def chances(seed):
    """Numbers that look like chance, the same ones each time."""
    return random.Random(seed)


def line_road(web, ties):
    """A road from the point 0 with so many ties, to and fro over the tie 1."""
    road = [0]
    for step in range(ties):
        road.extend([1 if step % 2 == 0 else -1, 0])
    return tuple(road)

