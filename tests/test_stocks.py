"""Stage 16: how many worlds and stocks there are, [16.1] to [16.7]."""

import itertools
import math
import unittest
from fractions import Fraction

from treerooms.base.rooms import Room, lots
from treerooms.counts.stocks import all_worlds, free_number, moves_number, stocks_number, worlds_number
from treerooms.errors import InvalidNumber, InvalidRoom, InvalidWeb, TooMany
from treerooms.kin.changes import all_needed, halved, put_in
from treerooms.webs.webs import Web, fraction
from treerooms.worlds.cores import stock_index
from treerooms.worlds.free import free_rank, is_free_world
from treerooms.worlds.own import own_web
from treerooms.worlds.worlds import World, hangs_together, is_full

from tests.makers import ALONE, ODD_TWO, ROUND_SIX, SMALL_ROOMS, some_webs
from tests.second import (
    few_stock_makers, figure_of, fraction_of, is_free_of, is_full_of, is_good_world, least_multiple, pieces, reading_of,
)
from tests.support import (
    DOWN, EIGHT, FLAT, FOUR, FREE23, HALVES, IDLE, LINE, LOOP, NO_ROOMS, NO_WEBS, SIX, STAR, THREE, TURNS, TWO, WHOLE, check_arguments,
    check_error, compose, numbers, rooms_wrong, webs_wrong,
)

SOME = {
    "free": FREE23, "flat": FLAT, "loop": LOOP, "down": DOWN, "turns": TURNS, "star": STAR, "line": LINE, "lone": Web.lone(SIX),
    "lone halves": Web.lone(HALVES), "two loops": Web((ALONE,), ((0, 0, IDLE),) * 2),
    "fours": Web((FOUR, HALVES), ((0, 1, ((0, 0), (2, 3))),)),
    "sixes": Web((SIX, SIX), ((1, 0, ((0, 0), (1, 2))), (0, 0, ((0, 0), (3, 4), (4, 3))))),
    "round": Web((HALVES, TWO, HALVES), ((0, 1, ((0, 0), (1, 1))), (1, 2, ((0, 0), (1, 2))), (2, 0, ((0, 0), (3, 1))))),
    "turned": Web((HALVES,), ((0, 0, tuple(enumerate((0, 2, 3, 1)))),)),
}


def ways(room, many):
    """All ways of a room to move spots: what its makers may be, and then all products."""
    makers = [member for member in range(1, room.size)]
    chosen, made = [], {0}
    for member in makers:
        if member not in made:
            chosen.append(member)
            made = set(range(room.size)) if len(chosen) > 2 else {room.members.index(one) for one in generated_by(room, chosen)}
    spots = list(itertools.permutations(range(many)))
    found = []
    for choice in itertools.product(spots, repeat=len(chosen)):
        moves = {0: tuple(range(many))}
        waiting = [0]
        for member in waiting:
            for maker, one in zip(chosen, choice):
                more = reading_of(Web.lone(room)).tables[0][member][maker]
                if more not in moves:
                    moves[more] = compose(moves[member], one)
                    waiting.append(more)
        table = reading_of(Web.lone(room)).tables[0]
        if all(compose(moves[a], moves[b]) == moves[table[a][b]] for a in range(room.size) for b in chosen):
            found.append(tuple(moves[member] for member in range(room.size)))
    return sorted(found)


def generated_by(room, members):
    found = {room.members[0]}
    while True:
        more = found | {compose(one, room.members[member]) for one in found for member in members}
        if more == found:
            return found
        found = more


def pairings(tie, moves, many):
    """All ways to pair the spots of both ends one to one so that this goes along with the tie."""
    begin, end, pairs = tie
    found = []
    for row in itertools.permutations(range(many)):
        if all(row[moves[begin][a][spot]] == moves[end][b][row[spot]] for a, b in pairs for spot in range(many)):
            found.append(tuple(enumerate(row)))
    return found


def every_world(web, many):
    """The moves and pairs of all full worlds, in no special sequence."""
    found = []
    for moves in itertools.product(*[ways(room, many) for room in web.rooms]):
        choices = [pairings(tie, moves, many) for tie in web.ties]
        found.extend((moves, pairs) for pairs in itertools.product(*choices))
    return found


def stocks_by_fractions(counts):
    """S(1), S(2), .. as [16.4] tells them, of F(1), F(2), .."""
    stocks = []
    for many in range(1, len(counts) + 1):
        total = Fraction(counts[many - 1], math.factorial(many - 1))
        for less in range(1, many):
            total -= stocks[less - 1] * Fraction(counts[many - less - 1], math.factorial(many - less))
        stocks.append(total)
    return stocks


def kinds_number(room, many):
    """The number of kinds of ways: of rows of numbers of lots of spots, one for each class of lots."""
    classes = set()
    for lot in lots(room):
        classes.add(min(tuple(sorted(room.product(room.product(by, a), room.contrary(by)) for a in lot)) for by in range(room.size)))
    sizes = [room.size // len(lot) for lot in classes]
    return sum(
        1 for row in itertools.product(*[range(many // size + 1) for size in sizes])
        if sum(count * size for count, size in zip(row, sizes)) == many
    )


class Moves(unittest.TestCase):
    def test_numbers_of_ways(self):
        for room in SMALL_ROOMS + (Room.round(5),):
            most = 4 if room.size in (4, 6) else 5
            self.assertEqual([moves_number(room, many) for many in range(1, most + 1)], [len(ways(room, many)) for many in range(1, most + 1)])
            self.assertEqual(moves_number(room, 0), 1)

    def test_rooms_made_by_one(self):
        # Permutations whose power is the idle one, counted by the lengths of their rounds.
        for size in range(1, 7):
            counts = [1]
            for many in range(1, 13):
                counts.append(sum(
                    math.factorial(many - 1) // math.factorial(many - part) * counts[many - part]
                    for part in range(1, many + 1) if size % part == 0
                ))
            self.assertEqual([moves_number(Room.round(size), many) for many in range(13)], counts)
        self.assertEqual(moves_number(Room(6, ()), 12), 1)

    def test_kinds(self):
        # [16.2]: the numbers of ways of all kinds, added up.
        for room, classes in ((SIX, ((6, 6), (3, 1), (2, 2), (1, 1))), (HALVES, ((4, 4), (2, 2), (2, 2), (2, 2), (1, 1)))):
            for many in range(1, 13):
                total = 0
                for row in itertools.product(*[range(many // size + 1) for size, _ in classes]):
                    if sum(count * size for count, (size, _) in zip(row, classes)) == many:
                        total += math.factorial(many) // math.prod(led ** count * math.factorial(count) for count, (_, led) in zip(row, classes))
                self.assertEqual(moves_number(room, many), total)

    def test_errors(self):
        check_arguments(self, moves_number, (SIX, 3), [rooms_wrong(), numbers(-1, 13)])
        self.assertEqual(len({moves_number(SIX, many) for many in (0, 12)}), 2)
        for room in (EIGHT, WHOLE, Room(6, ((1, 0, 2, 3, 4, 5), (0, 1, 3, 4, 5, 2)))):
            check_error(self, TooMany(6), moves_number, (room, 0))
            check_error(self, InvalidNumber(13), moves_number, (room, 13))
        for value in NO_ROOMS:
            check_error(self, InvalidRoom(""), moves_number, (value, 13))


class Worlds(unittest.TestCase):
    def test_all_worlds(self):
        for web in list(SOME.values()) + some_webs(1, 30, 3, 2, (ALONE, TWO, ODD_TWO, THREE, FOUR, HALVES, SIX)):
            for many in (1, 2, 3):
                number = worlds_number(web, many)
                if number > 3000:
                    continue
                told = list(all_worlds(web, many))
                wanted = sorted(every_world(web, many))
                self.assertEqual([(world.moves, world.pairs) for world in told], wanted)
                self.assertEqual(number, len(wanted))
                for world in told[::29]:
                    self.assertIsInstance(world, World)
                    self.assertTrue(is_full(world) and is_full_of(web, world.moves, world.pairs))
                    self.assertTrue(is_good_world(web, world.moves, world.pairs))
                    self.assertEqual((world.web, World(web, world.moves, world.pairs)), (web, world))

    def test_four_and_five_spots(self):
        for name in ("free", "flat", "loop", "turns", "line", "lone", "lone halves", "two loops", "down"):
            self.assertEqual(worlds_number(SOME[name], 4), len(every_world(SOME[name], 4)))
        for name in ("line", "loop", "turns"):
            self.assertEqual(worlds_number(SOME[name], 5), len(every_world(SOME[name], 5)))

    def test_ways_of_one_kind(self):
        # [16.3]: a tie of all members pairs ways of one kind alone, in as many ways as lead a way to itself.
        whole = tuple((member, member) for member in range(4))
        web = Web((HALVES, HALVES), ((0, 1, whole),))
        for many in range(1, 6):
            if many < 4:
                pairs = itertools.product(ways(HALVES, many), repeat=2)
                self.assertEqual(worlds_number(web, many), sum(len(pairings(web.ties[0], pair, many)) for pair in pairs))
            self.assertEqual(worlds_number(web, many), moves_number(HALVES, many) * math.factorial(many))

    def test_idle_ties(self):
        # Idle ties pair all spots at will.
        for many in range(1, 13):
            web = Web((TWO, SIX, THREE), ((0, 1, IDLE), (2, 0, IDLE), (1, 1, IDLE)))
            wanted = math.factorial(many) ** 3
            for room in web.rooms:
                wanted *= moves_number(room, many)
            self.assertEqual(worlds_number(web, many), wanted)

    def test_bounds_of_kinds(self):
        whole = Room.round(6)
        answers = []
        for rooms in (
            (HALVES, HALVES), (HALVES, HALVES, THREE), (HALVES, HALVES, TWO), (HALVES, FOUR, FOUR, TWO), (FOUR,) * 4, (FOUR,) * 5, (SIX,) * 3,
            (SIX, whole, SIX, THREE), (SIX, whole, SIX, TWO), (SIX,) * 4, (TWO,) * 5, (HALVES, HALVES, Room.round(5)), (HALVES,) * 3,
            (SIX, SIX, SIX, Room.round(5)),
        ):
            web = Web(rooms, tuple((0, at, IDLE) for at in range(1, len(rooms))))
            for many in (12, 11, 10):
                kinds = math.prod(kinds_number(room, many) for room in rooms)
                answers.append(kinds)
                if kinds > 100000:
                    for function in (worlds_number, stocks_number):
                        check_error(self, TooMany(100000), function, (web, many))
                else:
                    self.assertGreater(stocks_number(web, many), 0)
                    self.assertEqual(worlds_number(web, many) % math.factorial(many) ** (web.points - 1), 0)
        self.assertTrue(any(100000 < kinds < 120000 for kinds in answers) and any(80000 < kinds <= 100000 for kinds in answers))

    def test_numbers_of_kinds_bound_lists_too(self):
        web = Web((HALVES,) * 5, tuple((0, at, IDLE) for at in range(1, 5)))
        self.assertEqual(kinds_number(HALVES, 3) ** 5, 1024)
        check_error(self, TooMany(20000), all_worlds, (web, 3))
        self.assertEqual(len(list(all_worlds(web, 1))), 1)

    def test_too_many_worlds(self):
        loops = [Web((ALONE,), ((0, 0, IDLE),) * count) for count in range(7)]
        self.assertEqual([worlds_number(web, 3) for web in loops], [6 ** count for count in range(7)])
        check_error(self, TooMany(20000), all_worlds, (loops[6], 3))
        self.assertEqual(len(list(all_worlds(loops[5], 3))), 7776)
        self.assertEqual(len(list(all_worlds(loops[6], 2))), 64)
        near = [Web((HALVES,), ((0, 0, IDLE),) * 4), Web((THREE,), ((0, 0, IDLE),) * 5), Web((TWO, SIX), ((0, 1, IDLE),) * 3)]
        self.assertEqual([worlds_number(web, 3) for web in near], [12960, 23328, 8640])
        self.assertEqual(len(list(all_worlds(near[0], 3))), 12960)
        check_error(self, TooMany(20000), all_worlds, (near[1], 3))
        # Ties of all members between many points: most ways of the points alone make no world.
        whole = tuple((member, member) for member in range(4))
        web = Web((HALVES,) * 5, tuple((at, 4, whole) for at in range(4)))
        self.assertEqual((worlds_number(web, 3), len(list(all_worlds(web, 3)))), (12960, 12960))

    def test_generator(self):
        given = all_worlds(FREE23, 4)
        with self.assertRaises(InvalidNumber):
            next(given)
        given = all_worlds(None, 1)
        with self.assertRaises(InvalidWeb):
            next(given)
        self.assertEqual(next(all_worlds(FLAT, 2)).moves, (((0, 1), (0, 1)), ((0, 1), (0, 1))))

    def test_errors(self):
        for function, most in ((worlds_number, 12), (stocks_number, 12)):
            check_arguments(self, function, (FREE23, 3), [webs_wrong(), numbers(0, -1, most + 1)])
        check_arguments(self, lambda *given: len(list(all_worlds(*given))), (FREE23, 3), [webs_wrong(), numbers(0, -1, 4)])
        eight = Web((EIGHT, TWO), ((0, 1, IDLE),))
        many = Web((HALVES,) * 4 + (EIGHT,), tuple((0, at, IDLE) for at in range(1, 5)))
        for function in (worlds_number, stocks_number, all_worlds):
            check_error(self, TooMany(6), function, (eight, 1))
            check_error(self, TooMany(6), function, (many, 3))
            check_error(self, InvalidNumber(13), function, (many, 13))
        check_error(self, TooMany(6), worlds_number, (many, 12))


class Stocks(unittest.TestCase):
    def test_stocks_are_worlds_that_hang_together(self):
        for web in list(SOME.values()) + some_webs(2, 20, 3, 2, (ALONE, TWO, ODD_TWO, THREE, FOUR, HALVES, SIX)):
            for many in (1, 2, 3):
                if worlds_number(web, many) > 2000:
                    continue
                whole = [world for world in all_worlds(web, many) if hangs_together(world)]
                for world in whole[::17]:
                    self.assertEqual(len(pieces(web, world.moves, world.pairs)), 1)
                told = {figure_of(world).numbered((0, 0)) for world in whole}
                self.assertEqual(stocks_number(web, many), len(told))
                # Each stock comes of as many worlds as there are names for the spots other than the told one.
                self.assertEqual(len(told) * math.factorial(many) ** (web.points - 1) * math.factorial(many - 1), len(whole))

    def test_indices(self):
        for web in (FREE23, FLAT, LOOP, TURNS):
            for world in list(all_worlds(web, 3))[::5]:
                if hangs_together(world):
                    words = few_stock_makers(World(web, *figure_of(world).numbered((0, 0))))
                    if words is not None:
                        self.assertEqual(stock_index(web, words), 3)

    def test_by_fractions(self):
        for web in list(SOME.values()):
            counts = [Fraction(worlds_number(web, many), math.factorial(many) ** (web.points - 1)) for many in range(1, 9)]
            self.assertTrue(all(count.denominator == 1 for count in counts))
            self.assertEqual([stocks_number(web, many) for many in range(1, 9)], stocks_by_fractions(counts))

    def test_known_rows(self):
        self.assertEqual([stocks_number(FREE23, many) for many in range(1, 13)], [1, 1, 4, 8, 5, 22, 42, 40, 120, 265, 286, 764])
        self.assertEqual([stocks_number(SOME["two loops"], many) for many in range(1, 8)], [1, 3, 13, 71, 461, 3447, 29093])
        self.assertEqual([stocks_number(LINE, many) for many in range(1, 13)], [1] * 12)
        # The stocks of a web of one room are its lots.
        for room in (SIX, HALVES, FOUR, Room.round(6), ROUND_SIX):
            sizes = [room.size // len(lot) for lot in lots(room)]
            self.assertEqual([stocks_number(Web.lone(room), many) for many in range(1, 13)], [sizes.count(many) for many in range(1, 13)])

    def test_changes(self):
        for web in [DOWN, SOME["round"]] + some_webs(3, 25, 4, 2, (ALONE, TWO, ODD_TWO, THREE, FOUR, HALVES, SIX)):
            webs = [all_needed(web).web]
            if web.points < 5 and web.size < 6:
                webs += [put_in(web, 0, (0,)).web] + ([halved(web, 1).web] if web.size else [])
            for other in webs:
                for many in range(1, 6):
                    self.assertEqual(stocks_number(other, many), stocks_number(web, many))
                for many in (1, 2, 3, 4, 6, 12, 36):
                    self.assertEqual(free_number(other, many), free_number(web, many))

    def test_own_webs(self):
        own = own_web(Web((ALONE,), ((0, 0, IDLE),) * 2), tuple((0,) + tuple(entry for step in range(50) for entry in (1 + ((step * step + at) % 7 > 2), 0)) for at in range(5)))
        self.assertGreater(own.points, 50)
        rank = own.size - own.points + 1
        loops = Web((ALONE,), ((0, 0, IDLE),) * rank)
        for many in (1, 2, 5, 12):
            self.assertEqual(stocks_number(own, many), stocks_number(loops, many))
            self.assertEqual(free_number(own, many), free_number(loops, many))
        self.assertEqual(len(list(all_worlds(own, 1))), 1)
        check_error(self, TooMany(20000), all_worlds, (own, 2))

    def test_greatest_numbers(self):
        web = Web((FOUR,) * 4, tuple((u, v, ((0, 0), (2, 2))) for u, v in ((0, 1), (1, 2), (2, 3), (3, 0), (0, 2), (1, 3))))
        self.assertEqual(worlds_number(web, 12) % math.factorial(12) ** 3, 0)
        self.assertGreater(stocks_number(web, 12), 0)


class Free(unittest.TestCase):
    def test_free_worlds_listed(self):
        for web in SOME.values():
            for many in (1, 2, 3):
                if worlds_number(web, many) > 3000:
                    continue
                found = [world for world in all_worlds(web, many) if is_free_of(world.moves) and hangs_together(world)]
                self.assertEqual(len(found), len([world for world in found if is_free_world(web, many, world)]))
                each = math.factorial(many) ** (web.points - 1) * math.factorial(many - 1)
                self.assertEqual(free_number(web, many) * each, len(found))

    def test_free_products(self):
        # Over idle ties without rounds F(m) is the number of free ways of all rooms together.
        for rooms, many in (((TWO, THREE), 6), ((TWO, TWO), 4), ((TWO, TWO), 6), ((TWO, FOUR), 4), ((TWO, TWO, TWO), 4), ((HALVES, TWO), 4)):
            web = Web(rooms, tuple((0, at, IDLE) for at in range(1, len(rooms))))
            total = 0
            free = [[way for way in self.free_ways(room, many)] for room in rooms]
            for choice in itertools.product(*free):
                reached, waiting = {0}, [0]
                for spot in waiting:
                    for row in [row for way in choice for row in way]:
                        if row[spot] not in reached:
                            reached.add(row[spot])
                            waiting.append(row[spot])
                total += len(reached) == many
            self.assertEqual(free_number(web, many) * math.factorial(many - 1), total)

    def free_ways(self, room, many):
        """All free ways of a room of two or three members, or one with a maker of each half."""
        if room.size in (2, 3):
            found = []
            for row in itertools.permutations(range(many)):
                power = row
                moves = [tuple(range(many)), row]
                for _ in range(room.size - 2):
                    power = compose(power, row)
                    moves.append(power)
                if compose(power, row) == tuple(range(many)) and all(one[spot] != spot for one in moves[1:] for spot in range(many)):
                    found.append(moves)
            return found
        return [way for way in ways(room, many) if all(row[spot] != spot for row in way[1:] for spot in range(many))]

    def test_formula(self):
        # [16.5], with fractions.
        for web in list(SOME.values()) + [Web((WHOLE, EIGHT), ((0, 1, IDLE),)), Web.lone(WHOLE), Web((WHOLE,), ((0, 0, IDLE),) * 6)]:
            counts = []
            for many in range(1, 41):
                total = Fraction(1, math.factorial(many) ** (web.points - 1))
                for room in web.rooms:
                    n = room.size
                    total *= math.factorial(many) // (n ** (many // n) * math.factorial(many // n)) if many % n == 0 else 0
                for _, _, pairs in web.ties:
                    n = len(pairs)
                    total *= n ** (many // n) * math.factorial(many // n) if many % n == 0 else 0
                self.assertEqual(total.denominator, 1)
                counts.append(total)
            wanted = stocks_by_fractions(counts)
            self.assertEqual([free_number(web, many) for many in range(1, 41)], wanted)
            for many in range(1, 41):
                self.assertIs(free_number(web, many) > 0, free_rank(web, many) is not None)
                self.assertIs(type(free_number(web, many)), int)
            if fraction_of(web) > 0:
                self.assertEqual([many for many in range(1, 41) if wanted[many - 1]], [least_multiple(web)])

    def test_errors(self):
        check_arguments(self, free_number, (FREE23, 6), [webs_wrong(), numbers(0, -1, 41)])
        self.assertGreater(free_number(FREE23, 36), 10 ** 6)
        self.assertEqual(free_number(FREE23, 40), 0)
        self.assertEqual(free_number(Web((WHOLE,), ((0, 0, IDLE),)), 24) > 0, True)
        for value in NO_WEBS:
            check_error(self, InvalidWeb(""), free_number, (value, 41))


class NotTrue(unittest.TestCase):
    def test_what_is_not_true(self):
        # One fraction, and other numbers of stocks.
        one, other = Web.lone(Room.round(6)), Web.lone(SIX)
        self.assertEqual((fraction(one), fraction(other)), ((1, 6), (1, 6)))
        self.assertEqual([[stocks_number(web, many) for many in (1, 2, 3, 6)] for web in (one, other)], [[1, 1, 1, 1], [1, 1, 3, 1]])
        # Fewer stocks of a greater index.
        self.assertEqual([stocks_number(FREE23, many) for many in (4, 5)], [8, 5])


if __name__ == "__main__":
    unittest.main()
