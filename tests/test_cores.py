"""Stage 10: stocks and their cores, [0.17], [0.20] and [10.1] to [10.7]."""

import itertools
import math
import unittest

from treerooms.base.rooms import Room
from treerooms.errors import InvalidRoad, Refused, TooMany
from treerooms.webs.webs import Web
from treerooms.worlds import cores
from treerooms.worlds.cores import (
    are_alike_stocks, are_one_stock, core, is_long_stock, is_stock_between, stock_between, stock_has, stock_index,
)
from treerooms.worlds.worlds import World, hangs_together, is_full

from tests.second import (
    Figure, any_plain, back, core_parts, few_stock_makers, figure_of, finite_stock, fraction_of, full_free_parts, joined, least_multiple, pieces,
    reading_of, sets_of_words, stock_words, turned, walk, winding_word,
)
from tests.support import (
    DEEP, DOWN, EIGHT, FLAT, FOUR, FREE23, IDLE, JUDGED, LINE, LOOP, SHARED, SIX, STAR, THREE, TURNS, TWO, WHOLE, WIDE,
    Reading, chances, check_arguments, check_error, check_judged, line_road, roads_wrong, webs_wrong,
)
from tests.test_alike import MORE
from tests.test_plain import as_count, as_shift
from tests.test_tree import NO_WORDS

TURN, STEP = (1, 1, 1, -1, 0), (0, 1, 1, -1, 0)
TWENTY = Room(5, ((1, 2, 3, 4, 0), (0, 2, 4, 1, 3)))
LARGE = Web((TWENTY, TWENTY), ((0, 1, IDLE),))
# A plain word of LARGE with 60 ties, and one with 38.
SIXTY, LESS = (1,) + (1, 1, -1, 1) * 30, (1,) + (1, 1, -1, 1) * 19
NO_STOCKS = (
    [TURN], (TURN, [1]), TURN, (TURN,) * 6, (TURN, (2,)), ((True,),), (TURN, (0, 1, 0)), (line_road(FREE23, 62),), ((1,), None), (TURN, ()),
    ((0, 1, 10 ** 60, -1, 0),), (TURN, TURN, TURN, TURN, TURN, 0),
)


def stocks_wrong():
    """Values that are no tuples of words, with their error."""
    return [pair for pair in roads_wrong(*NO_STOCKS) if pair[0] != ()]


def parts(world):
    return world.moves, world.pairs


def flat_stock(words):
    """A stock of FLAT as the least shift that it has, 0 if none, and a mirror's shift, None if none."""
    maps = [as_shift(word) for word in words]
    mirrors = [shift for sign, shift in maps if sign == -1]
    step = math.gcd(*[shift for sign, shift in maps if sign == 1], *[shift - mirrors[0] for shift in mirrors])
    if not mirrors:
        return step, None
    return step, mirrors[0] % step if step else mirrors[0]


def flat_has(stock, word):
    (step, mirror), (sign, shift) = stock, as_shift(word)
    if sign == -1:
        if mirror is None:
            return False
        shift -= mirror
    return shift % step == 0 if step else shift == 0


def flat_index(stock):
    step, mirror = stock
    return None if step == 0 else (2 * step if mirror is None else step)


class Cores(unittest.TestCase):
    def test_constant(self):
        self.assertEqual(cores.MAX_BROUGHT, 2000)

    def test_cores_by_the_words_of_the_document(self):
        many = 0
        for name, web in sorted(MORE.items()):
            for seed in range(30):
                chance = chances(seed)
                words = stock_words(chance, web, chance.randrange(6), chance.randrange(1, 12))
                if sum(map(len, words)) * max(room.size for room in web.rooms) > 900:
                    continue
                many += 1
                told = core(web, words)
                self.assertIsInstance(told, World)
                self.assertEqual(told.web, web)
                self.assertEqual(parts(told), core_parts(web, words), (name, words))
                self.assertIs(hangs_together(told), True)
                if sum(told.spots) <= 400:
                    self.assertEqual(World(web, *parts(told)), told)
        self.assertGreater(many, 350)

    def test_what_is_left_out(self):
        # Lots at the ends go if no more members leave their spots than the tie carries.
        self.assertEqual([core(FLAT, words).spots for words in ((), ((1,),), (STEP,))], [(2, 0), (1, 0), (2, 1)])
        self.assertEqual(core(DOWN, ((1,),)).spots, (1, 0))
        self.assertEqual([core(DOWN, words).spots for words in (((0, 1, 1, -1, 0),), ((0, 1, 2, -1, 0),), ())], [(1, 1), (1, 0), (2, 0)])
        # A lot with two lots of pairs at one tie stays, and so does one with pairs at both ends of a tie.
        self.assertEqual(core(LOOP, ((0, 1, 0),)).spots, (2,))
        self.assertEqual(core(LINE, ((0, 1, 0, 1, 0),)).spots, (2,))
        self.assertEqual(core(FREE23, (TURN,)).spots, (2, 3))

    def test_numbers(self):
        # The begin is first; members go ahead of ties, ties below 0 ahead of those above.
        told = core(LINE, ((0, 1, 0, 1, 0, 1, 0),))
        self.assertEqual(parts(told), ((((0, 1, 2),),), (((0, 2), (1, 0), (2, 1)),)))
        for web in (SHARED, DEEP, WIDE):
            world = core(web, (winding_word(chances(3), web, 6), (1,)))
            self.assertEqual(figure_of(world).numbered((0, 0)), parts(world))

    def test_the_begin_is_walked_to_itself_by_words_of_the_stock(self):
        for web in MORE.values():
            chance = chances(4)
            words = stock_words(chance, web, 3, 5)
            world = core(web, words)
            for _ in range(10):
                word = (0,)
                for _ in range(4):
                    part = chance.choice(words + ((0,),))
                    word = joined(web, word, chance.choice([part, back(web, part)]))
                form = any_plain(web, word)
                self.assertEqual(walk(world, 0, 0, form), (0, 0))
                if len(form) <= 121:
                    self.assertIs(stock_has(web, words, form), True)
                    for other in Reading(web).exchanges(form)[:5]:
                        self.assertEqual(walk(world, 0, 0, other), (0, 0))
            for member in range(web.rooms[0].size):
                self.assertIs(stock_has(web, words, (member,)), world.moves[0][member][0] == 0)

    def test_one_core_for_each_stock(self):
        for web in MORE.values():
            chance = chances(5)
            for _ in range(6):
                words = stock_words(chance, web, chance.randrange(1, 5), 4)
                others = list(words)
                for _ in range(4):
                    at, by = chance.randrange(len(others)), chance.randrange(len(others))
                    if at != by:
                        changed = joined(web, others[at], chance.choice([others[by], back(web, others[by])]))
                        changed = any_plain(web, chance.choice([changed, back(web, changed)]))
                        if len(changed) <= 121:
                            others[at] = changed
                chance.shuffle(others)
                others = tuple(others) + ((0,),) * chance.randrange(6 - len(others))
                self.assertEqual(core(web, words), core(web, others))
                self.assertIs(are_one_stock(web, words, others), True)
                # Another stock has another core: one more word that is not in it, or none at all.
                more = winding_word(chance, web, 3)
                has = stock_has(web, words, more)
                self.assertIs(are_one_stock(web, words, words + (more,)), has)
                self.assertIs(core(web, words) == core(web, words + (more,)), has)
                self.assertIs(are_one_stock(web, words, ()), all(any_plain(web, word) == (0,) for word in words))


class Having(unittest.TestCase):
    def test_stocks_of_the_flat_web(self):
        for seed in range(60):
            chance = chances(seed)
            words = stock_words(chance, FLAT, chance.randrange(1, 5), 10)
            stock = flat_stock(words)
            self.assertEqual(stock_index(FLAT, words), flat_index(stock))
            for _ in range(12):
                word = winding_word(chance, FLAT, chance.randrange(20))
                self.assertIs(stock_has(FLAT, words, word), flat_has(stock, word))
            others = stock_words(chance, FLAT, chance.randrange(1, 5), 10)
            self.assertIs(are_one_stock(FLAT, words, others), flat_stock(others) == stock)
            self.assertIs(is_long_stock(FLAT, words), stock[0] != 0)

    def test_stocks_of_the_loop(self):
        for seed in range(40):
            chance = chances(seed)
            words = stock_words(chance, LOOP, chance.randrange(1, 4), 6)
            sums = {as_count(word) for word in words} | {(0, 0)}
            # The stock as sums: 24 steps of each word are enough for these small numbers.
            found, waiting = {(0, 0)}, [(0, 0)]
            while waiting:
                member, many = waiting.pop()
                for more, ties in sums:
                    for sign in (1, -1):
                        one = ((member + more) % 2, many + sign * ties)
                        if abs(one[1]) <= 120 and one not in found:
                            found.add(one)
                            waiting.append(one)
            for word in [winding_word(chance, LOOP, chance.randrange(8)) for _ in range(12)]:
                self.assertIs(stock_has(LOOP, words, word), as_count(word) in found)
            steps = [ties for _, ties in found if ties > 0]
            index = min(steps) * (1 if (1, 0) in found else 2) if steps else None
            self.assertEqual(stock_index(LOOP, words), index)

    def test_finite_webs(self):
        # Ties that are not needed, of rooms within rooms.
        chain = Web((TWO, FOUR, EIGHT), ((0, 1, ((0, 0), (1, 2))), (1, 2, self.within(FOUR, EIGHT))))
        branch = Web((SIX, TWO, THREE), ((1, 0, ((0, 0), (1, 2))), (0, 2, ((0, 0), (3, 1), (4, 2)))))
        for web in (DOWN, Web.lone(SIX), Web.lone(WHOLE), Web.lone(EIGHT), chain, branch):
            words_in_all = int(1 / fraction_of(web))
            for seed in range(20):
                chance = chances(seed)
                words = stock_words(chance, web, chance.randrange(4), 4)
                everything = finite_stock(web, words)
                self.assertEqual(stock_index(web, words), words_in_all // len(everything))
                self.assertIs(is_long_stock(web, words), False)
                for _ in range(8):
                    word = winding_word(chance, web, 5)
                    self.assertIs(stock_has(web, words, word), any_plain(web, word) in everything)

    def within(self, one, other):
        """Pairs that lead a room within another one, for rooms made by one member."""
        member = next(at for at in range(other.size) if other.order(at) == one.size)
        rows, goal = [], 0
        at = next(number for number in range(one.size) if one.order(number) == one.size)
        here = 0
        for _ in range(one.size):
            rows.append((here, goal))
            here, goal = one.product(here, at), other.product(goal, member)
        return tuple(sorted(rows))

    def test_stocks_of_full_worlds(self):
        """The words that lead a spot of a full world to itself are a stock with as many sets as there are spots."""
        found = []
        ones = [web for web in MORE.values() if least_multiple(web) * web.points <= 60 and fraction_of(web) <= 0]
        for web in ones:
            for seed in range(6):
                chance = chances(seed)
                many = least_multiple(web) * chance.randrange(1, 3)
                world = World(web, *full_free_parts(chance, web, many))
                whole = World(web, *quotient(world, chance)) if seed % 2 else world
                figure = figure_of(whole)
                part = next(piece for piece in pieces(web, *parts(whole)) if (0, 0) in piece)
                index = sum(point == 0 for point, _ in part)
                words = few_stock_makers(World(web, *figure.numbered((0, 0))))
                if words is None:
                    continue
                found.append(index)
                self.assertEqual(stock_index(web, words), index)
                for _ in range(8):
                    word = winding_word(chance, web, 4)
                    self.assertIs(stock_has(web, words, word), walk(whole, 0, 0, word) == (0, 0))
        self.assertGreater(len(found), 20)
        self.assertGreater(len(set(found)), 6)

    def test_sets_of_words(self):
        """The index is the number of the sets w s, counted one by one."""
        found = []
        webs = [FREE23, TURNS, SHARED, DEEP, STAR, LINE, MORE["double"], MORE["pressed"], MORE["round"]]
        webs.append(Web((TWO, TWO, FOUR), ((0, 1, IDLE), (1, 2, ((0, 0), (1, 2))))))
        webs.append(Web((TWO, SIX, THREE, TWO), ((0, 1, ((0, 0), (1, 1))), (1, 2, ((0, 0), (3, 1), (4, 2))), (2, 3, IDLE))))
        webs.append(Web((Room(1, ()), TWO, THREE), ((0, 1, IDLE), (1, 2, IDLE))))
        for web in webs:
            for seed in range(25):
                chance = chances(seed)
                words = stock_words(chance, web, chance.randrange(2, 6), 3)
                index = stock_index(web, words)
                if index is None or index > 12:
                    reached = sets_of_words(web, lambda word: stock_has(web, words, word) if len(word) <= 121 else False, 12)
                    self.assertIsNone(reached, (str(web), words, index))
                else:
                    found.append(index)
                    self.assertEqual(len(sets_of_words(web, lambda word: stock_has(web, words, word), 12)), index)
                    told = core(web, words)
                    if all(tie in (1, 2, 3, 4, 5, 6) for tie in needed(web)) and len(needed(web)) == web.size:
                        self.assertTrue(is_full(told) and set(told.spots) == {index})
        self.assertGreater(len(set(found)), 4)

    def test_index_where_points_are_peeled(self):
        # The point 0 hangs on a tie that carries its whole room.
        tail = Web((TWO, FOUR, THREE), ((0, 1, ((0, 0), (1, 2))), (1, 2, IDLE)))
        self.assertEqual(stock_index(tail, ((1,), (0, 1, 1, -1, 0), (0, 1, 0, 2, 1, -2, 0, -1, 0))), 1)
        # The same stock, made without the member of the point 0.
        self.assertEqual(stock_index(tail, ((0, 1, 1, -1, 0), (0, 1, 0, 2, 1, -2, 0, -1, 0))), 1)
        self.assertIsNone(stock_index(tail, ((0, 1, 1, -1, 0),)))
        self.assertIsNone(stock_index(tail, ((1,),)))
        self.assertIsNone(stock_index(tail, ()))
        # A room of one member that hangs on an idle tie.
        spare = Web((Room(1, ()), TWO, TWO), ((0, 1, IDLE), (1, 2, IDLE)))
        around = (0, 1, 1, 2, 1, -2, 0, -1, 0)
        self.assertEqual([stock_index(spare, words) for words in ((around,), (around, (0, 1, 1, -1, 0)), ())], [2, 1, None])
        self.assertEqual(core(spare, (around,)).spots[1:], (2, 2))


def needed(web):
    return [
        number for number, (begin, end, pairs) in enumerate(web.ties, start=1)
        if begin == end or len(pairs) < min(web.rooms[begin].size, web.rooms[end].size)
    ]


def quotient(world, chance):
    """The moves and pairs of a full world from which a world is led, two spots of which become one."""
    figure = figure_of(world)
    names = {spot: spot for spot in figure.moves}
    one, other = chance.sample([spot for spot in names if spot[0] == 0], 2) if world.spots[0] > 1 else ((0, 0), (0, 0))
    waiting = [(one, other)]
    while waiting:
        one, other = (names[spot] for spot in waiting.pop())
        if one != other:
            for spot in names:
                if names[spot] == max(one, other):
                    names[spot] = min(one, other)
            for spot, name in list(names.items()):
                if name == min(one, other):
                    waiting += [(figure.moves[spot][member], figure.moves[name][member]) for member in range(len(figure.moves[spot]))]
                    waiting += [(row[spot], row[name]) for row in figure.pairs.values() if spot in row]
    moves = {spot: [names[goal] for goal in figure.moves[spot]] for spot in set(names.values())}
    pairs = {tie: {names[a]: names[b] for a, b in row.items()} for tie, row in figure.pairs.items()}
    return Figure(world.web, moves, pairs).numbered(names[0, 0])


class Long(unittest.TestCase):
    def test_long_stocks(self):
        answers = []
        for web in MORE.values():
            for seed in range(12):
                chance = chances(seed)
                words = stock_words(chance, web, chance.randrange(3), chance.randrange(5))
                wanted = finite_stock(web, words) is None
                self.assertIs(is_long_stock(web, words), wanted)
                answers.append(wanted)
        self.assertGreater(min(answers.count(True), answers.count(False)), 30)
        # Of words that come round, as in [10.7].
        self.assertIs(is_long_stock(FREE23, ((1,), STEP)), True)
        self.assertIs(is_long_stock(FREE23, (STEP, turned(FREE23, (0,), STEP))), False)

    def test_turned_stocks_are_alike(self):
        many = 0
        for web in MORE.values():
            for seed in range(14):
                chance = chances(seed)
                words = stock_words(chance, web, chance.randrange(1, 4), 4)
                by = winding_word(chance, web, chance.randrange(5))
                others = [turned(web, word, by) for word in words]
                if max(map(len, others)) > 121 or finite_stock(web, words) is None and not is_long_stock(web, words):
                    continue
                others = tuple(others[::-1])
                if not is_long_stock(web, words):
                    for function, rest in ((are_alike_stocks, ()), (stock_between, ()), (is_stock_between, (by,))):
                        check_error(self, Refused(("round",)), function, (web, words, others) + rest)
                    continue
                many += 1
                self.assertIs(are_alike_stocks(web, words, others), True)
                self.assertIs(is_stock_between(web, words, others, by), True)
                self.check_between(web, words, others, stock_between(web, words, others))
        self.assertGreater(many, 80)

    def check_between(self, web, words, others, by):
        """The word turns the first stock into the second one."""
        self.assertTrue(reading_of(web).is_road(0, by) and reading_of(web).end(0, by) == 0)
        self.assertIs(is_stock_between(web, words, others, by), True)
        one, other = core(web, words), core(web, others)
        for word in words:
            self.assertEqual(walk(other, 0, 0, turned(web, word, by)), (0, 0))
        for word in others:
            self.assertEqual(walk(one, 0, 0, turned(web, word, back(web, by))), (0, 0))

    def test_stocks_that_are_not_alike(self):
        answers = []
        for name in ("free", "turns", "shared", "deep", "star", "line", "double", "pressed", "turned loops"):
            web = MORE[name]
            stocks = []
            for seed in range(10):
                chance = chances(seed)
                words = stock_words(chance, web, chance.randrange(1, 3), 3)
                if is_long_stock(web, words):
                    stocks.append(words)
            bys = [winding_word(chances(seed), web, seed % 4) for seed in range(25)]
            for one, other in itertools.product(stocks, repeat=2):
                by = stock_between(web, one, other)
                answers.append(by is not None)
                self.assertIs(are_alike_stocks(web, one, other), by is not None)
                if by is None:
                    self.assertFalse(any(is_stock_between(web, one, other, word) for word in bys))
                else:
                    self.check_between(web, one, other, by)
        self.assertGreater(min(answers.count(True), answers.count(False)), 80)

    def test_alike_stocks_of_the_flat_web(self):
        for seed in range(60):
            chance = chances(seed)
            one, other = (stock_words(chance, FLAT, chance.randrange(1, 4), 8) for _ in range(2))
            first, second = flat_stock(one), flat_stock(other)
            if first[0] == 0 or second[0] == 0:
                check_error(self, Refused(("round",)), are_alike_stocks, (FLAT, one, other))
                continue
            # A shift by t turns the mirror with the shift m into that with m + 2 t, a mirror into that with - m + 2 t.
            mirrors = {(sign * (first[1] or 0) + 2 * by) % first[0] for by in range(first[0]) for sign in (1, -1)}
            wanted = first[0] == second[0] and (first[1] is None) == (second[1] is None)
            wanted = wanted and (first[1] is None or second[1] in mirrors)
            self.assertIs(are_alike_stocks(FLAT, one, other), wanted)
            self.assertIs(stock_between(FLAT, one, other) is not None, wanted)

    def test_judged_words(self):
        one, alike = ((1, 1, 1, -1, 1, 1, 2, -1, 0),), ((0, 1, 2, -1, 1, 1, 1, -1, 1),)
        by = stock_between(FREE23, one, alike)
        check_judged(self, is_stock_between, (FREE23, one, alike), NO_WORDS + JUDGED + (None, (by,), list(by), (1,), (0, 1, 0)))
        long_by = joined(FREE23, by, *[one[0], back(FREE23, one[0])] * 60, *[one[0]] * 40)
        self.assertGreater(len(long_by), 800)
        for word in (by, long_by, any_plain(FREE23, long_by), joined(FREE23, by, one[0]), joined(FREE23, alike[0], by)):
            self.assertIs(is_stock_between(FREE23, one, alike, word), True)
        self.assertIs(is_stock_between(FREE23, one, alike, joined(FREE23, by, STEP)), False)
        # The first stock, turned, must be all of the second one.
        square = (any_plain(FREE23, joined(FREE23, one[0], one[0])),)
        self.assertEqual([is_stock_between(FREE23, square, one, (0,)), is_stock_between(FREE23, one, square, (0,))], [False, False])
        self.assertEqual([is_stock_between(FREE23, one, one, (0,)), are_alike_stocks(FREE23, one, square)], [True, False])

    def test_spots_that_look_alike(self):
        # The powers of one word: the core's lots look alike, but for one of them.
        web = Web((Room(1, ()),), ((0, 0, IDLE), (0, 0, IDLE)))
        around = ((0, 1) * 28 + (0, 2, 0, 1, 0, 2, 0, 1, 0),)
        for cut in (1, 20, 28, 30):
            other = (any_plain(web, around[0][2 * cut:-1] + around[0][:2 * cut] + (0,)),)
            by = stock_between(web, around, other)
            self.check_between(web, around, other, by)
        changed = (any_plain(web, (0, 1) * 27 + (0, 2, 0, 1, 0, 1, 0, 2, 0, 1, 0)),)
        self.assertEqual([are_alike_stocks(web, around, changed), stock_between(web, around, changed)], [False, None])
        # Two stocks with equally many of all spots and pairs, and one index.
        loops = [
            ((0, 1, 0, 1, 0, 1, 0), (0, 2, 0), (0, 1, 0, 2, 0, -1, 0, -1, 0), (0, 1, 0, 1, 0, 2, 0, -1, 0)),
            ((0, 1, 0, 1, 0, 1, 0), (0, 2, 0, 1, 0), (0, 1, 0, 2, 0), (0, 1, 0, 1, 0, 2, 0, -1, 0)),
        ]
        told = [[stock_index(web, words), are_alike_stocks(web, words, words)] for words in loops]
        self.assertEqual([row[1] for row in told], [True, True])
        self.assertIs(are_alike_stocks(web, *loops), False)


class Bounds(unittest.TestCase):
    calls = (
        (core, 1, ()), (stock_has, 1, ((0,),)), (stock_index, 1, ()), (is_long_stock, 1, ()), (are_one_stock, 2, ()), (are_alike_stocks, 2, ()),
        (stock_between, 2, ()), (is_stock_between, 2, (None,)),
    )

    def test_two_thousand_members(self):
        self.assertEqual([len(word) // 2 for word in (SIXTY, LESS)], [60, 38])
        good, bad = (SIXTY, LESS), (SIXTY, LESS, (0,))
        for function, many, rest in self.calls:
            function(LARGE, *[good] * many, *rest)
            check_error(self, TooMany(2000), function, (LARGE,) + (bad,) * many + rest)
            if many == 2:
                check_error(self, TooMany(2000), function, (LARGE, good, bad) + rest)
                check_error(self, TooMany(2000), function, (LARGE, bad, good) + rest)
        # The plain forms count, not the words as they are passed.
        around = line_road(LARGE, 60)
        self.assertEqual(core(LARGE, (around,) * 5).spots, (20, 0))
        self.assertEqual(core(LARGE, (around, SIXTY, LESS[:-4])).web, LARGE)
        check_error(self, TooMany(2000), core, (LARGE, (around, SIXTY, LESS)))
        # For two stocks the bound is for each of them.
        self.assertIs(are_one_stock(LARGE, good, good[::-1]), True)

    def test_errors_behind_then(self):
        bad = (SIXTY,) * 5
        check_error(self, InvalidRoad(""), stock_has, (LARGE, bad, (20,)))
        for function in (are_one_stock, are_alike_stocks, stock_between):
            check_error(self, InvalidRoad(""), function, (LARGE, bad, ((20,),)))
            check_error(self, TooMany(2000), function, (LARGE, bad, ()))
            check_error(self, TooMany(2000), function, (LARGE, (), bad))
        check_error(self, TooMany(2000), is_stock_between, (LARGE, (), bad, None))
        for one, other in ((((1,),), (TURN,)), ((TURN,), ((1,),)), ((), (TURN,)), ((STEP,), ()), ((TURN,), ((0,),))):
            for function, rest in ((are_alike_stocks, ()), (stock_between, ()), (is_stock_between, ((0,),))):
                check_error(self, Refused(("round",)), function, (FREE23, one, other) + rest)

    def test_wrong_arguments(self):
        words = stocks_wrong()
        for function in (core, stock_index, is_long_stock):
            check_arguments(self, function, (FREE23, (TURN, (1,))), [webs_wrong(), words])
            self.assertIsNotNone(function(FREE23, ((1,), STEP, TURN, (0,), (1,))))
        check_arguments(self, stock_has, (FREE23, (TURN,), (1,)), [webs_wrong(), words, roads_wrong(*NO_WORDS)])
        for function in (are_one_stock, are_alike_stocks, stock_between):
            check_arguments(self, function, (FREE23, (TURN,), (TURN, TURN)), [webs_wrong(), words, words])
        check_arguments(self, is_stock_between, (FREE23, (TURN,), (TURN,), None), [webs_wrong(), words, words, []])

    def test_the_largest_stocks(self):
        """Answers come for words up to the bounds."""
        full = tuple((member, member) for member in range(24))
        twelve = tuple((member, member) for member in self.half())
        for web in (
            Web((WHOLE,), ((0, 0, IDLE),) * 6), Web((WHOLE,) * 5, ((0, 1, IDLE), (1, 2, full), (2, 3, IDLE), (3, 4, twelve), (4, 0, IDLE), (0, 0, twelve))),
            Web((WHOLE, WHOLE), ((0, 1, twelve),)), Web((Room(1, ()),) * 5, ((0, 1, IDLE), (1, 2, IDLE), (2, 3, IDLE), (3, 4, IDLE), (4, 0, IDLE), (0, 0, IDLE))),
        ):
            chance = chances(6)
            for ties in (3, 10, 16, 55):
                words = tuple(word for word in (winding_word(chance, web, ties) for _ in range(5)) if len(word) <= 121)
                while sum(sum(web.rooms[point].size for point in reading_of(web).stops(0, any_plain(web, word))) for word in words) > 2000:
                    words = words[1:]
                world = core(web, words)
                self.assertIs(hangs_together(world), True)
                for word in words:
                    self.assertEqual(walk(world, 0, 0, any_plain(web, word)), (0, 0))
                if is_long_stock(web, words):
                    self.assertIsNotNone(stock_between(web, words, words[::-1]))
                stock_index(web, words)

    def half(self):
        members = [member for member in range(24) if WHOLE.order(member) == 3]
        found = {0}
        while len(found) < 12:
            found |= {WHOLE.product(one, other) for one in found | set(members) for other in members}
        return sorted(found)

    def test_what_is_not_true(self):
        self.assertEqual((is_long_stock(FREE23, ((1,), STEP)), stock_index(FREE23, ((1,), STEP))), (True, 1))
        # The index 4 by one word.
        self.assertEqual(stock_index(FLAT, ((1, 1, 1, -1, 1, 1, 1, -1, 0),)), 4)
        # Each power of a square is a power of the word, but the stocks are not alike.
        around, square = (1, 1, 1, -1, 0), (1, 1, 1, -1, 1, 1, 1, -1, 0)
        self.assertIs(stock_has(FREE23, (around,), square), True)
        self.assertIs(are_alike_stocks(FREE23, (square,), (around,)), False)


class RoomsOfTwentyFour(unittest.TestCase):
    """Long words over a room of 24 members and an idle tie."""

    ONCE = Web((WHOLE,), ((0, 0, IDLE),))
    LONG = (0, 1, 0) + (1, 0) * 59

    def word(self, ties, stays=(0,)):
        """A word of so many ties without a pinch, with these stays in turn."""
        return tuple(entry for at in range(ties) for entry in (stays[at % len(stays)], 1)) + (0,)

    def test_one_long_word(self):
        world = core(self.ONCE, (self.LONG,))
        self.assertEqual((world.spots, [len(row) for row in world.pairs]), ((1440,), [60]))
        # The lot of the begin, and behind it those that are met at the tie gone back, and at the tie, in turn.
        self.assertEqual(world.moves[0][23][0], 23)
        self.assertEqual(world.pairs[0][:3], ((0, 25), (24, 0), (25, 73)))
        self.assertEqual((stock_index(self.ONCE, (self.LONG,)), is_long_stock(self.ONCE, (self.LONG,))), (None, True))
        self.assertIs(stock_has(self.ONCE, (self.LONG,), self.LONG), True)
        self.assertIs(stock_has(self.ONCE, (self.LONG,), self.LONG[:-2]), False)
        self.assertIs(are_alike_stocks(self.ONCE, (self.LONG,), (self.LONG,)), True)
        self.assertIs(are_one_stock(self.ONCE, (self.LONG,), (back(self.ONCE, self.LONG),)), True)

    def test_same_as_the_slow_way(self):
        chance = chances(24)
        for stays in ((0,), (5,), (1, 7, 12)):
            for ties in (1, 2, 4):
                words = (self.word(ties, stays),)
                self.assertEqual(parts(core(self.ONCE, words)), core_parts(self.ONCE, words))
        for many in (1, 2, 3):
            words = tuple(winding_word(chance, self.ONCE, 3) for _ in range(many))
            self.assertEqual(parts(core(self.ONCE, words)), core_parts(self.ONCE, words))

    def test_refused_words(self):
        five = (self.LONG,) * 5
        one = (self.LONG,)
        for function in (core, stock_index, is_long_stock):
            check_error(self, TooMany(2000), function, (self.ONCE, five))
            # All words are asked for their form ahead of this.
            check_error(self, InvalidRoad(""), function, (self.ONCE, five[:4] + ((24,),)))
            check_error(self, InvalidRoad(""), function, (self.ONCE, five[:4] + (self.LONG + (1, 0),)))
            check_error(self, InvalidRoad(""), function, (self.ONCE, five[:4] + ((True,) + self.LONG[1:],)))
            check_error(self, InvalidRoad(""), function, (self.ONCE, five[:4] + ((0, True, 0) + self.LONG[3:],)))
            check_error(self, InvalidRoad(""), function, (self.ONCE, five[:4] + (list(self.LONG),)))
        check_error(self, TooMany(2000), stock_has, (self.ONCE, five, (0,)))
        check_error(self, InvalidRoad(""), stock_has, (self.ONCE, five, (24,)))
        for function, rest in ((are_one_stock, ()), (are_alike_stocks, ()), (stock_between, ()), (is_stock_between, (None,))):
            check_error(self, TooMany(2000), function, (self.ONCE, five, one) + rest)
            check_error(self, TooMany(2000), function, (self.ONCE, one, five) + rest)
            check_error(self, InvalidRoad(""), function, (self.ONCE, five, ((24,),)) + rest)
            if function is not are_one_stock:
                # Behind too many members, also of the other stock, come stocks that are not long.
                check_error(self, TooMany(2000), function, (self.ONCE, ((1,),), five) + rest)
                check_error(self, Refused(("round",)), function, (self.ONCE, ((1,),), one) + rest)

    def test_both_sides_of_the_bound(self):
        # 61 and 22 stays bring 1,992 members, one more stay 2,016.
        good, bad = (self.LONG, self.word(21)), (self.LONG, self.word(22))
        self.assertEqual(core(self.ONCE, good).spots, (72,))
        self.assertEqual(core(self.ONCE, (self.LONG, (5,) + self.word(21)[1:])).spots, (1416,))
        check_error(self, TooMany(2000), core, (self.ONCE, bad))
        check_error(self, TooMany(2000), core, (self.ONCE, bad[::-1]))
        check_error(self, TooMany(2000), core, (self.ONCE, good + ((0,),)))
        # The members are those of the plain words.
        around = (0,) + (1, 0, -1, 0) * 15
        self.assertEqual(core(self.ONCE, (around,) * 5).spots, (24,))
        self.assertEqual(core(self.ONCE, (self.LONG,) + (around,) * 4).spots, (1440,))
        turning = self.word(11) + (-1, 0) * 12 + (1, 0) * 12
        self.assertEqual(any_plain(self.ONCE, turning), self.word(11))
        self.assertEqual(stock_index(self.ONCE, (self.LONG, turning)), None)
        longer = self.word(22)[:-1] + (0, 1, 0, -1, 0)
        self.assertEqual(any_plain(self.ONCE, longer), self.word(22))
        check_error(self, TooMany(2000), core, (self.ONCE, (self.LONG, longer)))
        # A tie gone back behind itself, but not at a pinch.
        kept = (0,) + (1, 5, -1, 5) * 10 + (1, 0)
        self.assertEqual(any_plain(self.ONCE, kept), kept)
        self.assertIsNone(stock_index(self.ONCE, (self.LONG, kept)))
        check_error(self, TooMany(2000), core, (self.ONCE, (self.LONG, kept[:-1] + (0, 1, 0))))


if __name__ == "__main__":
    unittest.main()
