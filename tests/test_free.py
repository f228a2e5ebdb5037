"""Stage 13: what the fraction tells, and free stocks, [0.18] and [13.1] to [13.5]."""

import itertools
import unittest

from treerooms.base.rooms import Room
from treerooms.errors import InvalidNumber
from treerooms.webs.plain import plain_words
from treerooms.webs.webs import Web
from treerooms.worlds import free
from treerooms.worlds.cores import are_alike_stocks, core, stock_index
from treerooms.worlds.free import ends, free_base, free_rank, free_world, is_free_base, is_free_world, words_number
from treerooms.worlds.own import free_paper, own_web
from treerooms.worlds.worlds import World, hangs_together, is_free, is_full, made_full

from tests.second import (
    all_makers, any_plain, back, core_parts, few_stock_makers, figure_of, finite_stock, fraction_of, full_free_parts, is_free_of, is_full_of,
    is_good_world, joined, least_multiple, pieces, reading_of, turned,
)
from tests.support import (
    DOWN, FLAT, FOUR, FREE23, IDLE, JUDGED, LINE, LOOP, SHARED, SIX, STAR, THREE, TURNS, TWO, WHOLE, chances,
    check_arguments, check_error, check_judged, line_road, numbers, webs_wrong,
)
from tests.test_alike import MORE
from tests.test_worlds import NO_WORLDS, SWAP

ALONE = Room(1, ())
FULL = tuple((member, member) for member in range(24))
# The greatest webs, and such as have many spots and words.
LARGE = {
    "six loops": Web((ALONE,), ((0, 0, IDLE),) * 6),
    "six loops of two": Web((TWO,), ((0, 0, IDLE),) * 6),
    "six loops of 24": Web((WHOLE,), ((0, 0, IDLE),) * 6),
    "five of 24": Web((WHOLE,) * 5, ((0, 1, IDLE), (1, 2, IDLE), (2, 3, IDLE), (3, 4, IDLE), (4, 0, IDLE), (0, 0, IDLE))),
    "five of one": Web((ALONE,) * 5, ((0, 1, IDLE), (1, 2, IDLE), (2, 3, IDLE), (3, 4, IDLE), (4, 0, IDLE), (0, 0, IDLE))),
    "five of 24, full": Web((WHOLE,) * 5, ((0, 1, FULL), (1, 2, FULL), (2, 3, FULL), (3, 4, FULL), (4, 0, FULL))),
    "round five": Web((ALONE,) * 5, ((0, 1, IDLE), (1, 2, IDLE), (2, 3, IDLE), (3, 4, IDLE), (4, 0, IDLE))),
    "mixed": Web((SIX, FOUR, TWO, ALONE), ((0, 1, ((0, 0), (1, 2))), (1, 2, IDLE), (2, 3, IDLE), (3, 3, IDLE))),
}
FINITE = (Web.lone(SIX), Web.lone(WHOLE), Web.lone(ALONE), DOWN, Web((TWO, FOUR, TWO), ((0, 1, ((0, 0), (1, 2))), (2, 1, IDLE + ((1, 2),)))))


class Fractions(unittest.TestCase):
    def test_constant(self):
        self.assertEqual(free.MOST_INDEX, 400)

    def test_words_and_ends(self):
        seen = set()
        for web in list(MORE.values()) + list(LARGE.values()) + list(FINITE):
            whole = fraction_of(web)
            wanted = "none" if whole > 0 else "two" if whole == 0 else "many"
            self.assertEqual(ends(web), wanted)
            seen.add(wanted)
            self.assertEqual(words_number(web), least_multiple(web) if whole > 0 else None)
            if whole > 0:
                self.assertEqual(1 / whole, words_number(web))
                self.assertEqual(len(finite_stock(web, all_makers(web), 100)), words_number(web))
                self.assertEqual(sum(len(list(plain_words(web, ties))) for ties in range(5)), words_number(web))
            else:
                self.assertGreater(len(finite_stock(web, all_makers(web), 100) or [0] * 200), 100)
        self.assertEqual(seen, {"none", "two", "many"})
        for function in (words_number, ends):
            check_arguments(self, function, (FREE23,), [webs_wrong()])

    def test_own_webs(self):
        # An own web tells the words of its stock.
        self.assertEqual((words_number(own_web(FREE23, ((1,),))), ends(own_web(FREE23, ()))), (2, "none"))
        self.assertEqual((words_number(own_web(FLAT, ((1, 1, 1, -1, 0),))), ends(own_web(FLAT, ((1, 1, 1, -1, 0),)))), (None, "two"))
        self.assertEqual(ends(own_web(FREE23, ((1, 1, 1, -1, 1, 1, 2, -1, 0), (1, 1, 2, -1, 1, 1, 1, -1, 0)))), "many")


class Ranks(unittest.TestCase):
    def test_ranks(self):
        for web in list(MORE.values()) + list(LARGE.values()) + list(FINITE):
            whole, step = fraction_of(web), least_multiple(web)
            for many in range(1, 401):
                wanted = None
                if many % step == 0 and (whole <= 0 or many == step):
                    wanted = 1 - many * whole
                told = free_rank(web, many)
                self.assertEqual(told, wanted)
                self.assertIs(type(told), type(None) if wanted is None else int)

    def test_wrong_arguments(self):
        wrong = numbers(0, 401, -1, -400)
        for function in (free_rank, free_world, free_base):
            check_arguments(self, function, (FREE23, 6), [webs_wrong(), wrong])
            check_arguments(self, function, (FREE23, 1), [webs_wrong(), wrong])
            check_arguments(self, function, (FLAT, 400), [webs_wrong(), wrong])
        for function in (is_free_world, is_free_base):
            check_arguments(self, function, (FREE23, 6, None), [webs_wrong(), wrong, []])
            check_error(self, InvalidNumber(401), function, (FREE23, 401, None))
            self.assertIs(function(FREE23, 5, None), False)


class FreeWorlds(unittest.TestCase):
    def check_world(self, web, many, world):
        self.assertIsInstance(world, World)
        self.assertEqual((world.web, world.spots), (web, (many,) * web.points))
        self.assertTrue(is_full_of(web, world.moves, world.pairs) and is_free_of(world.moves))
        self.assertEqual(len(pieces(web, world.moves, world.pairs)), 1)
        if many <= 60:
            self.assertTrue(is_good_world(web, world.moves, world.pairs))
        if many * web.points <= 400:
            self.assertEqual(World(web, world.moves, world.pairs), world)
        self.assertIs(is_free_world(web, many, world), True)

    def test_told_worlds(self):
        for web in list(MORE.values()) + list(LARGE.values()) + list(FINITE):
            step = least_multiple(web)
            for many in sorted({1, step, 2 * step, 3 * step, 5 * step, 400 // step * step, 399, 400, step + 1}):
                if not 1 <= many <= 400:
                    continue
                world = free_world(web, many)
                self.assertIs(world is None, free_rank(web, many) is None)
                if world is not None:
                    self.check_world(web, many, world)
                    self.assertEqual(free_world(web, many), world)

    def test_all_indices(self):
        for web in (FREE23, FLAT, LOOP, LINE, TURNS, STAR, SHARED, MORE["double"], LARGE["mixed"], DOWN):
            for many in range(1, 401):
                world = free_world(web, many)
                self.assertIs(world is None, free_rank(web, many) is None)
                if world is not None:
                    self.assertTrue(is_free_world(web, many, world))
                    self.assertTrue(is_full(world) and is_free(world) and hangs_together(world))
                    self.assertIs(is_free_world(web, many % 400 + 1, world), False)

    def test_own_webs(self):
        own = own_web(FREE23, ((1, 1, 1, -1, 1, 1, 2, -1, 0), (1, 1, 2, -1, 1, 1, 1, -1, 0)))
        self.assertGreater(own.points, 3)
        for many in (1, 2, 7, 100):
            self.check_world(own, many, free_world(own, many))
            self.assertIs(is_free_base(own, many, free_base(own, many)), True)

    def test_other_worlds(self):
        answers = []
        for web in list(MORE.values()) + [LARGE["five of one"], LARGE["mixed"]] + list(FINITE):
            step = least_multiple(web)
            for seed in range(4):
                many = step * (1 + seed // 2)
                if many * web.points > 400:
                    continue
                world = World(web, *full_free_parts(chances(seed), web, many))
                wanted = len(pieces(web, world.moves, world.pairs)) == 1
                answers.append(wanted)
                self.assertIs(is_free_world(web, many, world), wanted)
                self.assertIs(is_free_world(web, many + 1, world), False)
        self.assertGreater(min(answers.count(True), answers.count(False)), 8)

    def test_refused_values(self):
        pair = World(FLAT, (SWAP, SWAP), (((0, 0), (1, 1)),))
        twice = World(FLAT, (((0, 1, 2, 3), (1, 0, 3, 2)),) * 2, (((0, 0), (1, 1), (2, 2), (3, 3)),))
        self.assertIs(is_free_world(FLAT, 2, pair), True)
        check_judged(self, is_free_world, (FLAT, 2), NO_WORLDS + JUDGED + (
            None, twice, World(FLAT, (SWAP, SWAP), ((),)), core(FLAT, ()), World(FLAT, (((0, 1), (0, 1)),) * 2, (((0, 0), (1, 1)),)),
            World(Web((TWO, TWO), ((1, 0, IDLE),)), pair.moves, pair.pairs), World(FLAT, (((), ()),) * 2, ((),)), World(LOOP, (SWAP,), (((0, 0), (1, 1)),)),
        ))
        check_judged(self, is_free_world, (FLAT, 4), (twice, pair))
        self.assertIs(is_free_world(FLAT, 4, World(FLAT, twice.moves, (((0, 0), (1, 2), (2, 1), (3, 3)),))), True)
        # Of all that the words of a finite web move freely only one world hangs together.
        self.assertIs(is_free_world(DOWN, 4, free_world(DOWN, 4)), True)
        self.assertIsNone(free_world(DOWN, 8))
        self.assertEqual(made_full(free_world(DOWN, 4)), free_world(DOWN, 4))


class Bases(unittest.TestCase):
    def check_base(self, web, many, base):
        rank = free_rank(web, many)
        self.assertIs(type(base), tuple)
        self.assertEqual(len(base), rank)
        for word in base:
            self.assertTrue(reading_of(web).is_road(0, word) and reading_of(web).end(0, word) == 0)
        self.assertIs(is_free_base(web, many, base), True)
        if rank <= 5 and max(map(len, base), default=0) <= 121 and sum(map(len, base)) * max(room.size for room in web.rooms) <= 1200:
            self.assertEqual(stock_index(web, base), many)
            self.assertEqual(free_paper(web, base)[0], "free")
            self.assertEqual(len(free_paper(web, base)[1]), rank)
            moves, _ = core_parts(web, base)
            self.assertTrue(is_free_of(moves))

    def test_told_bases(self):
        for web in list(MORE.values()) + list(LARGE.values()) + list(FINITE):
            step = least_multiple(web)
            for many in sorted({1, step, 2 * step, 3 * step, 400 // step * step, 400}):
                if not 1 <= many <= 400:
                    continue
                base = free_base(web, many)
                self.assertIs(base is None, free_rank(web, many) is None)
                if base is None:
                    check_judged(self, is_free_base, (web, many), [None, (), ((0,),)])
                else:
                    self.check_base(web, many, base)
                    if fraction_of(web) > 0:
                        self.assertEqual(base, ())

    def test_words_of_a_base_have_no_relations(self):
        for web, many in ((FREE23, 6), (FREE23, 12), (STAR, 6), (TURNS, 6), (LINE, 3), (LOOP, 4), (SHARED, 6)):
            base = free_base(web, many)
            signed = [(at, sign) for at in range(len(base)) for sign in (1, -1)]
            for row in itertools.product(signed[:6], repeat=3):
                if not any(one == (other[0], -other[1]) for one, other in zip(row, row[1:])):
                    whole = joined(web, *[base[at] if sign > 0 else back(web, base[at]) for at, sign in row])
                    self.assertNotEqual(any_plain(web, whole), (0,))

    def test_other_bases(self):
        for web in (FREE23, FLAT, LOOP, LINE, TURNS, STAR, MORE["double"], SHARED):
            chance = chances(1)
            for many in (least_multiple(web), 2 * least_multiple(web)):
                base = free_base(web, many)
                changed = list(base)
                for _ in range(5):
                    at, by = chance.randrange(len(base)), chance.randrange(len(base))
                    if at != by:
                        changed[at] = joined(web, changed[by], changed[at])
                    changed[by] = back(web, changed[by])
                self.assertIs(is_free_base(web, many, tuple(changed)), True)
                self.assertIs(is_free_base(web, many, base[::-1]), True)
                # Turned by a word, it is a base of another stock, or of the same one.
                member = (web.rooms[0].size - 1,)
                self.assertIs(is_free_base(web, many, tuple(turned(web, word, member) for word in base)), True)
                padded = tuple(joined(web, *[word, back(web, word)] * 40, word) for word in base)
                self.assertIs(is_free_base(web, many, padded), True)
                twice = joined(web, base[0], base[0])
                bad = [
                    base[1:], base + base[:1], base + ((0,),), (twice,) + base[1:], base[:-1] + ((0,),), list(base), base[0], base[:-1] + (None,),
                    base[:-1] + ((99,),), base[:-1] + (list(base[-1]),),
                ]
                if len(base) > 1:
                    bad.append(base[:-1] + base[:1])
                check_judged(self, is_free_base, (web, many), bad)
                check_judged(self, is_free_base, (web, 3 * many), [base])

    def test_bases_of_other_worlds(self):
        many = 0
        for web in (FREE23, FLAT, LOOP, TURNS, SHARED, LINE, MORE["double"], Web((TWO, THREE), ((0, 1, IDLE),))):
            for seed in range(5):
                world = World(web, *full_free_parts(chances(seed), web, least_multiple(web) * (1 + seed % 2)))
                if len(pieces(web, world.moves, world.pairs)) > 1:
                    continue
                words = few_stock_makers(World(web, *figure_of(world).numbered((0, 0))))
                if words is not None and len(words) == free_rank(web, world.spots[0]):
                    many += 1
                    self.assertIs(is_free_base(web, world.spots[0], words), True)
        self.assertGreater(many, 10)

    def test_told_examples(self):
        self.assertEqual([free_base(FREE23, 5), free_base(Web.lone(SIX), 6), free_base(Web.lone(SIX), 12), free_base(DOWN, 4)], [None, (), None, ()])
        check_judged(self, is_free_base, (FLAT, 2), [((1,),), ((0,),), (), ((0, 1, 1, -1, 0),), (line_road(FLAT, 2),)] + list(JUDGED))
        check_judged(self, is_free_base, (Web.lone(SIX), 6), [((0,),), ((1,),), None, [], ((),)])
        self.assertIs(is_free_base(Web.lone(SIX), 6, ()), True)
        self.assertIs(is_free_base(LINE, 1, ((0, -1, 0),)), True)
        self.assertIs(is_free_base(LINE, 400, ((0,) + (1, 0) * 400,)), True)
        self.assertIs(is_free_base(LINE, 399, ((0,) + (1, 0) * 400,)), False)
        # As many words as the rank tells, of the index 6, but not free: a member comes round.
        other = ((1,), (0, 1, 1, -1, 0))
        self.assertEqual((free_rank(FREE23, 6), is_free_base(FREE23, 6, other)), (2, False))
        # A free stock of two words without a finite index.
        self.assertIs(is_free_base(FREE23, 6, ((1, 1, 1, -1, 1, 1, 2, -1, 0), (0,))), False)
        self.assertIs(is_free_base(FREE23, 6, ((1, 1, 1, -1, 1, 1, 2, -1, 0), (1, 1, 2, -1, 1, 1, 1, -1, 0))), True)
        self.assertIs(is_free_base(FREE23, 12, ((1, 1, 1, -1, 1, 1, 2, -1, 0), (1, 1, 2, -1, 1, 1, 1, -1, 0))), False)


class NotTrue(unittest.TestCase):
    def test_what_is_not_true(self):
        # Two free stocks of the index 6 that are not alike: the one within all shifts by an even number of ties.
        stocks = []
        for seed in range(40):
            world = World(FREE23, *full_free_parts(chances(seed), FREE23, 6))
            if len(pieces(FREE23, world.moves, world.pairs)) == 1:
                words = few_stock_makers(World(FREE23, *figure_of(world).numbered((0, 0))))
                if words is not None:
                    stocks.append(words)
        self.assertTrue(all(stock_index(FREE23, words) == 6 for words in stocks))
        self.assertIn(False, [are_alike_stocks(FREE23, stocks[0], words) for words in stocks])
        # The index 6, a multiple of M, but not free.
        self.assertEqual(stock_index(Web.lone(SIX), ()), 6)
        self.assertEqual((stock_index(FLAT, ((1,), turned(FLAT, (0, 1, 1, -1, 0), (1,)))), free_paper(FLAT, ((1,),))[0]), (1, "round"))
        half = ((1,), turned(FLAT, (1,), (0, 1, 1, -1, 0)))
        self.assertEqual((stock_index(FLAT, half), free_paper(FLAT, half)[0], least_multiple(FLAT)), (2, "round", 2))
        # One fraction, but free stocks of other indices.
        one, other = Web((TWO, TWO), ((0, 1, IDLE),)), LINE
        self.assertEqual((fraction_of(one), fraction_of(other)), (0, 0))
        self.assertEqual(([free_rank(web, 3) for web in (one, other)], [free_rank(web, 4) for web in (one, other)]), ([None, 1], [1, 1]))


if __name__ == "__main__":
    unittest.main()
