"""Stage 12: words common to two stocks, [12.1] to [12.4]."""

import itertools
import math
import unittest

from treerooms.base.rooms import Room
from treerooms.errors import InvalidRoad, TooMany
from treerooms.webs.plain import plain_words
from treerooms.webs.webs import Web
from treerooms.worlds import common
from treerooms.worlds.common import common_index, common_words, is_common
from treerooms.worlds.cores import core, stock_has, stock_index
from treerooms.worlds.own import free_paper, own_web

from tests.second import (
    Figure, any_plain, back, core_parts, figure_of, finite_stock, fraction_of, joined, reading_of, sets_of_words, stock_words, turned,
    walk, winding_word,
)
from tests.support import (
    DEEP, FLAT, FREE23, IDLE, JUDGED, LINE, LOOP, SHARED, SIX, STAR, TURNS, chances, check_arguments, check_error, check_judged,
    line_road, webs_wrong,
)
from tests.test_alike import MORE
from tests.test_cores import LARGE, LESS, SIXTY, STEP, flat_index, flat_stock, stocks_wrong

ODD = ((1,), (0, 1, 1, -1, 1, 1, 2, -1, 0), (0, 1, 2, -1, 1, 1, 1, -1, 0))
EVEN = (STEP, (1, 1, 1, -1, 1))
FIVE = Web((Room.round(5),), ((0, 0, tuple((member, member) for member in range(5))),))


def around(many):
    """The stock of the words that go around FIVE by a multiple of so many ties."""
    return ((0,) + (1, 0) * many,)


def paired_parts(web, one, other):
    """The moves and pairs of the core of the common stock, by the words of [12.1] and [12.2], and the number of paired spots."""
    first, second = figure_of(core(web, one)), figure_of(core(web, other))
    start = (0, (0, 0))
    moves, pairs = {}, {tie: {} for tie in reading_of(web).sides}
    waiting = [start]
    while waiting:
        spot = waiting.pop()
        if spot in moves:
            continue
        point, (s, t) = spot
        moves[spot] = [(point, (a[1], b[1])) for a, b in zip(first.moves[point, s], second.moves[point, t])]
        waiting += moves[spot]
        for tie in pairs:
            a, b = first.pairs[tie].get((point, s)), second.pairs[tie].get((point, t))
            if reading_of(web).sides[tie][0] == point and a is not None and b is not None:
                pairs[tie][spot] = (a[0], (a[1], b[1]))
                waiting.append(pairs[tie][spot])
    return Figure(web, moves, pairs).pared(start).numbered(start), len(moves)


def flat_common(one, other):
    """The common stock of two stocks of FLAT, each told by a shift and a mirror."""
    step = math.lcm(one[0], other[0])
    if one[1] is None or other[1] is None:
        return step, None
    if one[0] == 0 or other[0] == 0:
        first, second = (one, other) if one[0] == 0 else (other, one)
        fits = (first[1] - second[1]) % second[0] == 0 if second[0] else first[1] == second[1]
        return step, first[1] if fits else None
    found = [shift for shift in range(step) if shift % one[0] == one[1] % one[0] and shift % other[0] == other[1] % other[0]]
    return step, found[0] if found else None


class Common(unittest.TestCase):
    def test_constant(self):
        self.assertEqual(common.MAX_PAIRED, 2000)

    def check(self, web, one, other, words):
        """The words make what both stocks have in common."""
        self.assertIs(type(words), tuple)
        self.assertIs(is_common(web, one, other, words), True)
        first, second = core(web, one), core(web, other)
        for word in words:
            form = any_plain(web, word)
            self.assertEqual((walk(first, 0, 0, form), walk(second, 0, 0, form)), ((0, 0), (0, 0)))
        wanted, paired = paired_parts(web, one, other)
        self.assertLessEqual(paired, 2000)
        if sum(map(len, words)) * max(room.size for room in web.rooms) <= 1500:
            self.assertEqual(core_parts(web, words), wanted)
        return wanted

    def test_common_words(self):
        many = 0
        for name, web in sorted(MORE.items()):
            for seed in range(12):
                chance = chances(seed)
                one, other = (stock_words(chance, web, chance.randrange(1, 5), chance.randrange(1, 6)) for _ in range(2))
                spots = [sum(core(web, words).spots) for words in (one, other)]
                if spots[0] * spots[1] > 1500:
                    continue
                many += 1
                words = common_words(web, one, other)
                moves, pairs = self.check(web, one, other, words)
                # Words are in the common stock just if they are in both stocks.
                some = [winding_word(chance, web, 3) for _ in range(6)] + list(one) + list(other)
                some += [any_plain(web, joined(web, word, word)) for word in one + other] + list(words)
                for word in (word for word in some if len(word) <= 121):
                    both = stock_has(web, one, word) and stock_has(web, other, word)
                    self.assertIs(figure_walk(web, moves, pairs, any_plain(web, word)), both)
                if all(moves[0][member][0] != 0 for member in range(1, len(moves[0]))) and not any(map(len, pairs)):
                    self.assertEqual(words, ())
        self.assertGreater(many, 120)

    def test_indices(self):
        found = set()
        for name, web in sorted(MORE.items()):
            for seed in range(25):
                chance = chances(seed)
                one, other = (stock_words(chance, web, chance.randrange(1, 6), 3) for _ in range(2))
                index, first, second = common_index(web, one, other), stock_index(web, one), stock_index(web, other)
                self.assertEqual(common_index(web, other, one), index)
                if fraction_of(web) > 0:
                    everything = [set(finite_stock(web, words)) for words in (one, other)]
                    self.assertEqual(index, int(1 / fraction_of(web)) // len(everything[0] & everything[1]))
                self.assertEqual(index is None, first is None or second is None)
                if index is not None:
                    found.add((first, second, index))
                    self.assertEqual((index % first, index % second), (0, 0))
                    self.assertLessEqual(index, first * second)
                    self.assertTrue(index == first * second or math.gcd(first, second) > 1)
        self.assertGreater(len(found), 20)

    def test_indices_counted_one_by_one(self):
        cases = [(FREE23, EVEN, ODD), (FREE23, ODD, EVEN), (FREE23, ODD, tuple(turned(FREE23, word, STEP) for word in ODD))]
        for web in (FREE23, TURNS, SHARED, STAR, LINE):
            for seed in range(10):
                chance = chances(seed)
                cases.append((web, *(stock_words(chance, web, 4, 2) for _ in range(2))))
        many = 0
        for web, one, other in cases:
            index = common_index(web, one, other)
            if index is not None and index <= 12:
                many += 1
                both = sets_of_words(web, lambda word: stock_has(web, one, word) and stock_has(web, other, word), 12)
                self.assertEqual(len(both), index)
        self.assertGreater(many, 12)

    def test_stocks_of_the_flat_web(self):
        for seed in range(80):
            chance = chances(seed)
            one, other = (stock_words(chance, FLAT, chance.randrange(1, 4), 8) for _ in range(2))
            wanted = flat_common(flat_stock(one), flat_stock(other))
            words = common_words(FLAT, one, other)
            self.assertEqual(flat_stock(words) if words else (0, None), wanted)
            self.assertEqual(common_index(FLAT, one, other), flat_index(wanted))
            self.assertEqual(words == (), wanted == (0, None))

    def test_fractions(self):
        # The own web of the common stock has the index times the fraction of the web.
        for web in (FREE23, SHARED, STAR, TURNS, DEEP):
            for seed in range(8):
                chance = chances(seed)
                one, other = (stock_words(chance, web, 4, 2) for _ in range(2))
                words, index = common_words(web, one, other), common_index(web, one, other)
                if index is not None and len(words) <= 5 and max(map(len, words), default=0) <= 121:
                    self.assertEqual(fraction_of(own_web(web, words)), index * fraction_of(web))

    def test_all_words_with_few_ties(self):
        for web, one, other in ((FREE23, EVEN, ODD), (FREE23, (STEP,), ODD), (LOOP, ((0, 1, 0, 1, 1),), ((0, 1, 0, 1, 0, 1, 0),))):
            words = common_words(web, one, other)
            (moves, pairs), _ = paired_parts(web, one, other)
            for word in (word for ties in range(5) for word in plain_words(web, ties)):
                both = stock_has(web, one, word) and stock_has(web, other, word)
                self.assertIs(figure_walk(web, moves, pairs, word), both)
            self.assertIs(is_common(web, one, other, words), True)


def figure_walk(web, moves, pairs, word):
    """Whether a word is walked from the begin to the begin in a world, told by moves and pairs."""
    class Told:
        pass
    told = Told()
    told.web, told.moves, told.pairs = web, moves, pairs
    return walk(told, 0, 0, word) == (0, 0)


class Judged(unittest.TestCase):
    def test_other_words(self):
        for name, web in sorted(MORE.items()):
            for seed in range(6):
                chance = chances(seed)
                one, other = (stock_words(chance, web, 3, 2) for _ in range(2))
                words = common_words(web, one, other)
                if not words or max(map(len, words)) > 200:
                    continue
                changed = list(words)
                for _ in range(3):
                    at, by = chance.randrange(len(words)), chance.randrange(len(words))
                    if at != by:
                        changed[at] = joined(web, changed[by], changed[at])
                    changed[by] = back(web, changed[by])
                for more in (tuple(changed), words * 2, words + ((0,),) * 9, tuple(changed) + words, words[::-1]):
                    self.assertIs(is_common(web, one, other, more), True)
                outside = next((word for word in (winding_word(chance, web, 3) for _ in range(9)) if not stock_has(web, one, word)), None)
                if outside is not None:
                    self.assertIs(is_common(web, one, other, words + (outside,)), False)
                check_judged(self, is_common, (web, one, other), [list(words), words + (None,), words + ((0, 9, 0),), words[0]])

    def test_refused_values(self):
        check_judged(self, is_common, (FREE23, EVEN, (STEP,)), [
            (), ((0,),), (STEP, (1,)), (STEP, (0, 1, 0)), [STEP], STEP, (list(STEP),), (STEP, (True,)), (STEP, 0), ((0, 1, 1, -1, False),),
        ] + [value for value in JUDGED if value != ()])
        for value in ((STEP,), ((0, 1, 2, -1, 0),), (STEP, STEP, (0,)), (joined(FREE23, line_road(FREE23, 300), STEP),), (STEP,) * 50):
            self.assertIs(is_common(FREE23, EVEN, (STEP,), value), True)
        self.assertEqual([is_common(FREE23, ((1,),), (STEP,), value) for value in ((), ((0,),), ((1, 1, 0, -1, 1),), ((1,),))], [True, True, True, False])
        square = turned(FREE23, (1, 1, 1, -1, 0), (0,))
        twice = (any_plain(FREE23, joined(FREE23, square, square)),)
        self.assertEqual([is_common(FREE23, (square,), twice, value) for value in (twice, (square,), (twice * 2)[:1], ())], [True, False, True, False])

    def test_two_thousand_paired_spots(self):
        self.assertEqual([stock_index(FIVE, around(many)) for many in (16, 25)], [80, 125])
        self.assertEqual(common_index(FIVE, around(16), around(25)), 2000)
        words = common_words(FIVE, around(16), around(25))
        self.assertEqual([any_plain(FIVE, word) for word in words], [(0,) + (1, 0) * 400])
        self.assertIs(is_common(FIVE, around(16), around(25), words), True)
        self.assertIs(is_common(FIVE, around(16), around(25), ((0,) + (-1, 0) * 400,)), True)
        self.assertIs(is_common(FIVE, around(16), around(25), ((0,) + (1, 0) * 399 + (1, 1),)), False)
        for one, other in ((20, 21), (29, 30), (21, 20), (59, 60)):
            for function, rest in ((common_words, ()), (common_index, ()), (is_common, ((),))):
                check_error(self, TooMany(2000), function, (FIVE, around(one), around(other)) + rest)
        # The paired spots count, also those that are left out of the core.
        self.assertEqual(common_index(FIVE, around(60), around(60)), 300)

    def test_wrong_arguments(self):
        words = stocks_wrong()
        for function, rest in ((common_words, ()), (common_index, ()), (is_common, ((),))):
            check_arguments(self, function, (FREE23, EVEN, ODD) + rest, [webs_wrong(), words, words, []][:3 + len(rest)])
            bad = (SIXTY, LESS, (0,))
            check_error(self, TooMany(2000), function, (LARGE, bad, ()) + rest)
            check_error(self, TooMany(2000), function, (LARGE, (), bad) + rest)
            check_error(self, InvalidRoad(""), function, (LARGE, bad, ((20,),)) + rest)
            function(LARGE, (SIXTY, LESS), ((1,),), *rest)

    def test_what_is_not_true(self):
        # Two stocks of no finite index with words in common.
        one, other = ((1, 1, 1, -1, 0),), ((1, 1, 1, -1, 1, 1, 1, -1, 0),)
        self.assertEqual((stock_index(FREE23, one), stock_index(FREE23, other)), (None, None))
        self.assertNotEqual(common_words(FREE23, one, other), ())
        self.assertEqual([stock_index(Web.lone(SIX), (word,)) for word in ((1,), (2,))], [3, 3])
        self.assertEqual(common_index(Web.lone(SIX), ((1,),), ((2,),)), 6)
        # Two free stocks of the rank 2, whose common stock has the rank 2.
        web = Web((Room(1, ()),), ((0, 0, IDLE), (0, 0, IDLE)))
        one, other = ((0, 1, 0), (0, 2, 0, 2, 0)), ((0, 1, 0, 1, 0), (0, 2, 0))
        both = common_words(web, one, other)
        self.assertEqual([free_paper(web, words)[0] for words in (one, other, both)], ["free"] * 3)
        self.assertEqual([len(free_paper(web, words)[1]) for words in (one, other, both)], [2, 2, 2])
        self.assertIs(is_common(web, one, other, ((0, 1, 0, 1, 0), (0, 2, 0, 2, 0))), True)

    def test_products_of_words(self):
        words = common_words(FREE23, EVEN, ODD)
        for one, two in itertools.product(words[:5], repeat=2):
            whole = any_plain(FREE23, joined(FREE23, one, back(FREE23, two)))
            if len(whole) <= 121:
                self.assertTrue(stock_has(FREE23, EVEN, whole) and stock_has(FREE23, ODD, whole))


if __name__ == "__main__":
    unittest.main()
