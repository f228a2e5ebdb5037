"""Stage 11: the web of rooms of a stock, [0.18], [0.20] and [11.1] to [11.6]."""

import itertools
import unittest
from fractions import Fraction

from treerooms.base.leading import room_of_lot
from treerooms.base.rooms import Room, is_lot
from treerooms.errors import InvalidOperation, InvalidRoad, TooMany
from treerooms.trees.alike import are_alike
from treerooms.trees.lines import is_kind, kind_of, length_of, order_of
from treerooms.trees.tree import is_place, neighbours, still_lots
from treerooms.webs.plain import are_equal, is_plain, plain, plain_words, product
from treerooms.webs.roads import is_word
from treerooms.webs.webs import Web, fraction, least_tree, needed_ties
from treerooms.worlds.common import common_index
from treerooms.worlds.cores import are_alike_stocks, are_one_stock, core, stock_has, stock_index
from treerooms.worlds.free import ends, free_rank, words_number
from treerooms.worlds.own import free_paper, is_free_paper, led_home, led_out, own_web, stock_fraction
from treerooms.worlds.worlds import nothing_paper

from tests.second import (
    any_plain, back, core_parts, figure_of, fraction_of, joined, reading_of, stock_words, turned, walk, winding_word,
)
from tests.support import (
    FOUR, FREE23, IDLE, JUDGED, LINE, SHARED, SIX, TURNS, TWO, Reading, chances, check_arguments,
    check_error, check_judged, line_road, roads_wrong, webs_wrong,
)
from tests.test_alike import MORE
from tests.test_cores import LARGE, LESS, SIXTY, STEP, TURN, stocks_wrong
from tests.test_lines import powers_to_nothing
from tests.test_tree import NO_WORDS

AROUND = ((1, 1, 1, -1, 1, 1, 2, -1, 0),)
ALL = ((1,), STEP)


def own_parts(web, words):
    """The rooms and ties of the own web, by the words of [11.1], from a naive core."""
    reading = reading_of(web)
    moves, pairs = core_parts(web, words)
    lots = [
        (point, lot) for point, rows in enumerate(moves)
        for lot in sorted({tuple(sorted({row[spot] for row in rows})) for spot in (rows[0] if rows else ())})
    ]
    stays = [[g for g, row in enumerate(moves[point]) if row[lot[0]] == lot[0]] for point, lot in lots]
    rooms = []
    for (point, _), members in zip(lots, stays):
        # At most four of its permutations make the room.
        permutations = [web.rooms[point].members[member] for member in members]
        rooms.append(next(
            room for many in range(5) for some in itertools.combinations(permutations, many)
            for room in [try_room(web.rooms[point].points, some)] if room is not None and list(room.members) == permutations
        ))
    home = {(point, spot): at for at, (point, lot) in enumerate(lots) for spot in lot}
    ties = []
    for (u, v, tie_pairs), row in zip(web.ties, pairs):
        blocks = {tuple(sorted({(moves[u][a][s], moves[v][b][t]) for a, b in tie_pairs})) for s, t in row}
        for block in sorted(blocks):
            s, t = block[0]
            source, target = home[u, s], home[v, t]
            g = next(g for g, r in enumerate(moves[u]) if r[lots[source][1][0]] == s)
            h = next(h for h, r in enumerate(moves[v]) if r[lots[target][1][0]] == t)
            own = []
            for a, b in tie_pairs:
                if moves[u][a][s] == s:
                    one = reading.tables[u][reading.tables[u][g][a]][reading.contraries[u][g]]
                    other = reading.tables[v][reading.tables[v][h][b]][reading.contraries[v][h]]
                    own.append((stays[source].index(one), stays[target].index(other)))
            ties.append((source, target, tuple(sorted(own))))
    return tuple(rooms), tuple(ties)


def try_room(points, makers):
    try:
        return Room(points, makers)
    except TooMany:
        return None


def some_stocks(seed, many, most=300):
    """Webs with words, few enough for a naive core."""
    for name, web in sorted(MORE.items()):
        for at in range(many):
            chance = chances(1000 * seed + at)
            words = stock_words(chance, web, chance.randrange(5), chance.randrange(1, 6))
            if sum(map(len, words)) * max(room.size for room in web.rooms) <= most:
                yield chance, web, words


class Own(unittest.TestCase):
    def test_own_webs_by_the_words_of_the_document(self):
        many = 0
        for _, web, words in some_stocks(1, 14):
            many += 1
            told = own_web(web, words)
            self.assertIsInstance(told, Web)
            self.assertEqual((told.rooms, told.ties), own_parts(web, words))
            if told.points <= 5 and told.size <= 6:
                self.assertEqual(Web(told.rooms, told.ties), told)
                self.assertEqual(told, Web(told.rooms, told.ties))
            self.assertEqual((told.points, told.size), (len(told.rooms), len(told.ties)))
            self.assertEqual(str(told), f"web of {told.points} rooms, {told.size} ties")
        self.assertGreater(many, 150)

    def test_fractions(self):
        found = set()
        for _, web, words in some_stocks(2, 12, 10000):
            told = own_web(web, words)
            whole = fraction_of(told)
            self.assertEqual(stock_fraction(web, words), (whole.numerator, whole.denominator))
            self.assertEqual(fraction(told), stock_fraction(web, words))
            index = stock_index(web, words)
            found.add(index)
            if index is not None:
                self.assertEqual(whole, index * fraction_of(web))
            figure = figure_of(core(web, words))
            self.assertEqual(told.points, len({figure.lot(spot) for spot in figure.moves}))
        self.assertGreater(len(found), 6)

    def test_rooms(self):
        for _, web, words in some_stocks(3, 4):
            world, told = core(web, words), own_web(web, words)
            figure = figure_of(world)
            lots = sorted({(min(figure.lot(spot))) for spot in figure.moves})
            for (point, spot), room in zip(lots, told.rooms):
                stays = tuple(sorted(figure.stays((point, spot))))
                self.assertTrue(is_lot(web.rooms[point], stays))
                self.assertEqual(room, room_of_lot(web.rooms[point], stays))

    def test_stocks_of_all_words_and_of_none(self):
        for name, web in sorted(MORE.items()):
            if name in ("free", "flat", "shared", "turns", "loop", "line"):
                makers = {"free": ALL, "flat": ((1,), STEP), "turns": ((1,), (0, 1, 0)), "loop": ((1,), (0, 1, 0)), "line": ((0, 1, 0),)}.get(name)
                if makers:
                    self.assertEqual(own_web(web, makers), web)
            for words in ((), ((0,),), ((0,), line_road(web, 4) if web.size and name not in ("down", "deep", "wide") else (0,))):
                if all(any_plain(web, word) == (0,) for word in words if is_word(web, word)) and all(is_word(web, word) for word in words):
                    told = own_web(web, words)
                    self.assertEqual((told.points, told.size, told.rooms[0].size, told.rooms[0].points), (1, 0, 1, web.rooms[0].points))
                    self.assertEqual(free_paper(web, words), ("free", ()))
        self.assertEqual(own_web(SHARED, ((1,), (3,))).rooms, (SIX,))

    def test_own_webs_are_passed_on(self):
        web = Web((Room(1, ()),), ((0, 0, IDLE), (0, 0, IDLE)))
        words = ((0, 1) * 28 + (0, 2, 0, 1, 0, 2, 0, 1, 0), (0, 2) * 30 + (0, 1, 0))
        told = own_web(web, words)
        self.assertGreater(min(told.points, told.size), 50)
        self.assertEqual((len(told), told.points), (told.size, len(told.rooms)))
        self.assertEqual(told, own_web(web, words))
        home = led_home(web, words, words[0])
        self.assertTrue(is_word(told, home) and is_plain(told, 0, home))
        self.assertEqual((order_of(told, home), length_of(told, home)), (None, length_of(web, words[0])))
        self.assertIs(is_kind(told, home, kind_of(told, home)), True)
        self.assertIs(are_alike(told, home, home), True)
        self.assertEqual((len(least_tree(told)), ends(told), words_number(told)), (told.points - 1, "many", None))
        self.assertEqual(stock_index(told, (home, led_home(web, words, words[1]))), 1)
        self.assertEqual(own_web(told, (home, led_home(web, words, words[1]))).points > 50, True)
        self.assertEqual((still_lots(told), len(needed_ties(told)) <= told.size), (((0,),) * told.points, True))
        self.assertEqual(free_rank(told, 3), 1 - 3 * Fraction(*fraction(told)))
        self.assertEqual(len(neighbours(told, ())), len(told.beginnings(0)))
        self.assertEqual((nothing_paper(told, (0,)), common_index(told, (home,), (home,))), (("nothing",), None))
        check_error(self, TooMany(400), nothing_paper, (told, home))
        # Rooms and ties alone, as tuples, are bounded as ever.
        check_error(self, webs_wrong()[0][1], Web, (told.rooms, told.ties))
        self.assertTrue(all(is_place(told, place) for place in neighbours(told, ())))


class Led(unittest.TestCase):
    def led_by_hand(self, web, words, word):
        """A word of the own web is walked in the core, as its stays and ties tell."""
        figure = figure_of(core(web, words))
        lots = sorted({min(figure.lot(spot)) for spot in figure.moves})
        blocks = []
        for number, (_, _, pairs) in enumerate(web.ties, start=1):
            row = figure.pairs[number]
            one_block = {frozenset(self.block(figure, pairs, spot, row[spot])) for spot in row}
            blocks += [(number,) + min(block) for block in sorted(one_block, key=min)]
        road, home = (sorted(figure.stays(lots[0]))[word[0]],), 0
        for at in range(1, len(word), 2):
            number, one, other = blocks[abs(word[at]) - 1]
            if word[at] < 0:
                number, one, other = -number, other, one
            goal = next(at for at, lot in enumerate(lots) if lot == min(figure.lot(other)))
            g = next(g for g, spot in enumerate(figure.moves[lots[home]]) if spot == one)
            h = next(h for h, spot in enumerate(figure.moves[lots[goal]]) if spot == other)
            road = joined(web, road, (g, number, reading_of(web).contraries[lots[goal][0]][h]))
            road = joined(web, road, (sorted(figure.stays(lots[goal]))[word[at + 1]],))
            home = goal
        return any_plain(web, road)

    def block(self, figure, pairs, one, other):
        return {(figure.moves[one][a], figure.moves[other][b]) for a, b in pairs}

    def test_led_out_and_home_again(self):
        for chance, web, words in some_stocks(4, 6, 3000):
            own = own_web(web, words)
            reading = Reading(own)
            some = [reading.some_word(chance, 8) for _ in range(3)] + [winding_word(chance, own, 3) for _ in range(2)] + [(0,)]
            led = []
            for word in (word for word in some if len(word) <= 121):
                out = led_out(web, words, word)
                self.assertEqual(out, any_plain(web, out))
                self.assertEqual(out, self.led_by_hand(web, words, word))
                self.assertEqual(walk(core(web, words), 0, 0, out), (0, 0))
                led.append((any_plain(own, word), out))
                self.assertEqual(len(out), len(any_plain(own, word)))
                self.assertEqual(led_home(web, words, out), any_plain(own, word))
            for (one, out), (other, other_out) in itertools.product(led, repeat=2):
                self.assertEqual(one == other, out == other_out)
                whole = any_plain(own, joined(own, one, other))
                if len(whole) <= 121:
                    self.assertEqual(led_out(web, words, whole), any_plain(web, joined(web, out, other_out)))

    def test_words_of_the_stock_come_of_words_of_the_own_web(self):
        for chance, web, words in some_stocks(5, 6, 3000):
            own = own_web(web, words)
            for word in words + tuple(any_plain(web, joined(web, one, back(web, other))) for one in words[:3] for other in words[:3]):
                if len(word) > 121:
                    continue
                home = led_home(web, words, word)
                self.assertEqual(home, any_plain(own, home))
                self.assertTrue(reading_of(own).is_road(0, home) and reading_of(own).end(0, home) == 0)
                self.assertEqual(self.led_by_hand(web, words, home), any_plain(web, word))
                if len(home) <= 121:
                    self.assertEqual(led_out(web, words, home), any_plain(web, word))
                for other in Reading(web).exchanges(word)[:4]:
                    self.assertEqual(led_home(web, words, other), home)
                self.assertEqual(powers_to_nothing(own, home), powers_to_nothing(web, word))
            for word in (winding_word(chance, web, 3) for _ in range(4)):
                if walk(core(web, words), 0, 0, any_plain(web, word)) != (0, 0):
                    check_error(self, InvalidOperation(""), led_home, (web, words, word))

    def test_equal_words_and_products(self):
        own = own_web(FREE23, (TURN, (1,)))
        self.assertEqual(own.points > 0, True)
        words = [word for ties in range(5) for word in plain_words(own, ties)][:14]
        for one, other in itertools.product(words, repeat=2):
            outs = [led_out(FREE23, (TURN, (1,)), word) for word in (one, other)]
            self.assertEqual(outs[0] == outs[1], are_equal(own, one, other))
            self.assertEqual(led_out(FREE23, (TURN, (1,)), product(own, one, other)), product(FREE23, *outs))

    def test_as_many_ties(self):
        # What is plain in the one web has as many ties in the other one.
        tail = (0,) + (1, 1, -1, 1) * 14 + (1, 1, -1, 0)
        words = (turned(FREE23, STEP, tail), turned(FREE23, (1,), tail))
        for word in words:
            home = led_home(FREE23, words, word)
            self.assertEqual((len(home), len(led_out(FREE23, words, home))), (len(word), len(word)))
        around = (0,) + (1, 1, -1, 1) * 29 + (1, 1, -1, 1)
        self.assertEqual((len(around) // 2, len(led_out(FREE23, ALL, around)) // 2), (60, 60))
        web = Web((TWO, FOUR), ((0, 1, ((0, 0), (1, 2))), (0, 1, IDLE)))
        for seed in range(20):
            chance = chances(seed)
            words = stock_words(chance, web, 2, 20)
            own = own_web(web, words)
            for word in words:
                self.assertEqual(self.led_by_hand(web, words, led_home(web, words, word)), any_plain(web, word))
                self.assertTrue(is_plain(own, 0, led_home(web, words, word)))

    def test_wrong_arguments(self):
        words = stocks_wrong()
        for function in (own_web, stock_fraction, free_paper):
            check_arguments(self, function, (FREE23, (TURN, (1,))), [webs_wrong(), words])
        own_words = roads_wrong((1, 1, 1, -1, 0), (0, -1, 0), (2,), (True,), [0], (0, 5, 0), (0, 1, 0, 1, 0))
        check_arguments(self, led_out, (FREE23, ((1,),), (1,)), [webs_wrong(), words, own_words])
        # What is a word of the web need be none of the own web, and the other way round.
        check_error(self, InvalidRoad(""), led_out, (FREE23, ((1,),), STEP))
        check_error(self, InvalidRoad(""), led_out, (FREE23, (), (1,)))
        own = own_web(FREE23, (TURN,))
        self.assertEqual(is_word(own, (0, 1, 0, -1, 0)) or is_word(own, (0, -1, 0, 1, 0)), True)
        check_arguments(self, led_home, (FREE23, ALL, TURN), [webs_wrong(), words, roads_wrong(*NO_WORDS)])
        check_arguments(self, is_free_paper, (FREE23, ALL, None), [webs_wrong(), words, []])
        check_error(self, InvalidOperation(""), led_home, (FREE23, (TURN,), (1,)))
        self.assertEqual(led_home(FREE23, (TURN,), (1, 1, 0, -1, 1)), (0,))

    def test_errors_behind_then(self):
        bad = (SIXTY, LESS, (0,))
        for function, rest in ((own_web, ()), (stock_fraction, ()), (led_out, (None,)), (led_home, ((1,),)), (free_paper, ()), (is_free_paper, (None,))):
            check_error(self, TooMany(2000), function, (LARGE, bad) + rest)
            function(LARGE, (SIXTY, LESS), *(rest and ((0,),)))
        # The word of the own web is asked for behind the bound, a word of the web ahead of it.
        check_error(self, InvalidRoad(""), led_home, (LARGE, bad, (20,)))
        check_error(self, InvalidRoad(""), led_home, (LARGE, (SIXTY, LESS), (20,)))
        check_error(self, InvalidOperation(""), led_home, (LARGE, (SIXTY, LESS), (1,)))
        check_error(self, InvalidRoad(""), led_out, (LARGE, (SIXTY, LESS), (1,)))


class Papers(unittest.TestCase):
    def check_paper(self, web, words, paper):
        self.assertIs(is_free_paper(web, words, paper), True)
        own = own_web(web, words)
        world = core(web, words)
        if paper[0] == "free":
            self.assertTrue(all(room.size == 1 for room in own.rooms))
            self.assertEqual(len(paper[1]), own.size - own.points + 1)
            for word in paper[1]:
                self.assertEqual(walk(world, 0, 0, any_plain(web, word)), (0, 0))
            self.assertEqual(core_parts(web, paper[1]), (world.moves, world.pairs))
            # No product of few words of the base is nothing, other than those that strike out.
            signed = [(at, sign) for at in range(len(paper[1])) for sign in (1, -1)]
            for row in itertools.product(signed[:6], repeat=3):
                if any(one == (other[0], -other[1]) for one, other in zip(row, row[1:])):
                    continue
                whole = joined(web, *[paper[1][at] if sign > 0 else back(web, paper[1][at]) for at, sign in row])
                self.assertNotEqual(any_plain(web, whole), (0,))
        else:
            self.assertEqual(paper[0], "round")
            self.assertFalse(all(room.size == 1 for room in own.rooms))
            self.assertEqual(walk(world, 0, 0, any_plain(web, paper[1])), (0, 0))
            self.assertGreater(powers_to_nothing(web, paper[1]), 1)

    def test_papers(self):
        kinds = []
        for _, web, words in some_stocks(6, 14):
            paper = free_paper(web, words)
            kinds.append((paper[0], len(paper[1]) if paper[0] == "free" else None))
            self.check_paper(web, words, paper)
        for kind in (("round", None), ("free", 0), ("free", 1), ("free", 2)):
            self.assertGreater(kinds.count(kind), 3)

    def test_other_bases(self):
        for chance, web, words in some_stocks(7, 20):
            kind, base = free_paper(web, words)
            if kind == "round" or not base:
                continue
            self.assertIs(is_free_paper(web, words, ("free", base[::-1])), True)
            changed = list(base)
            for _ in range(4):
                at, by = chance.randrange(len(base)), chance.randrange(len(base))
                if at != by:
                    changed[at] = joined(web, changed[by], changed[at])
                changed[by] = back(web, changed[by])
            self.assertIs(is_free_paper(web, words, ("free", tuple(changed))), True)
            unequal = joined(web, (0,), *[base[0]] * 2)
            check_judged(self, is_free_paper, (web, words), [
                ("free", base[1:]), ("free", base + base[:1]), ("free", base + ((0,),)), ("free", (unequal,) + base[1:]), ("free", list(base)),
                ("free", base[:-1] + ((0,),)), ("round", base[0]), ("round", (0,)), ("free",), base, ["free", base], ("Free", base), ("free", base, 0),
            ])

    def test_long_bases(self):
        word = AROUND[0]
        other = (1, 1, 2, -1, 1, 1, 1, -1, 0)
        stock = (word, other)
        kind, base = free_paper(FREE23, stock)
        self.assertEqual((kind, len(base)), ("free", 2))
        long_one = joined(FREE23, *[base[1]] * 300, base[0])
        self.assertIs(is_free_paper(FREE23, stock, ("free", (long_one, base[1]))), True)
        self.assertIs(is_free_paper(FREE23, stock, ("free", (long_one, joined(FREE23, base[1], base[1])))), False)
        self.assertIs(is_free_paper(FREE23, (word,), ("free", (joined(FREE23, *[word, back(FREE23, word)] * 300, word),))), True)
        self.assertIs(is_free_paper(FREE23, (word,), ("free", (back(FREE23, word),))), True)

    def test_round_papers(self):
        for value in (("round", (1,)), ("round", line_road(FREE23, 400)[:-1] + (1,)), ("round", turned(FREE23, (1,), (0,)))):
            self.assertIs(is_free_paper(FREE23, ((1,),), value), True)
        check_judged(self, is_free_paper, (FREE23, ((1,),)), [
            ("round", (0,)), ("round", STEP), ("round", TURN), ("round", (2,)), ("round", (True,)), ("round", [1]), ("round",), ("free", ()),
            ("free", ((1,),)), ("round", ((1,),)), ("round", (1, 1, 0, -1, 1)), (None, (1,)), (1, (1,)), ("round", (0, 1, 0)), ("free", None),
        ] + list(JUDGED))
        for word in (STEP, turned(FREE23, STEP, (1,)), turned(FREE23, (1,), TURN)):
            self.assertIs(is_free_paper(FREE23, ALL, ("round", word)), True)
        self.assertIs(is_free_paper(FREE23, ALL, ("round", TURN)), False)
        check_judged(self, is_free_paper, (FREE23, ()), [("round", (1,)), ("free", ((0,),)), ("free", (TURN,)), ("round", (0,)), ("free", 0)])
        self.assertIs(is_free_paper(FREE23, ((0,),), ("free", ())), True)

    def test_far_members_that_come_round(self):
        tail = (0,) + (1, 1, -1, 1) * 14 + (1, 1, -1, 0)
        words = (turned(FREE23, STEP, tail),)
        paper = free_paper(FREE23, words)
        self.assertEqual(paper[0], "round")
        self.check_paper(FREE23, words, paper)

    def test_what_is_not_true(self):
        # A stock within a free one of two words whose bases have three words.
        web = Web((Room(1, ()),), ((0, 0, IDLE), (0, 0, IDLE)))
        words = ((0, 1, 0, 1, 0), (0, 2, 0), (0, 1, 0, 2, 0, -1, 0))
        self.assertEqual((stock_index(web, words), len(free_paper(web, words)[1]), len(free_paper(web, ((0, 1, 0), (0, 2, 0)))[1])), (2, 3, 2))
        # One own web, and stocks that are not alike.
        one, other = ((0, 1, 0),), ((0, 1, 0, 1, 0),)
        self.assertEqual((are_alike_stocks(LINE, one, other), are_one_stock(LINE, one, other)), (False, False))
        two, three = ((0, 1, 0),), ((0, 2, 0),)
        self.assertEqual((own_web(web, two) == own_web(web, three), are_alike_stocks(web, two, three)), (True, False))
        # Its rooms are lots of the rooms of the web.
        self.assertNotIn(own_web(FREE23, (TURN,)).rooms[0], FREE23.rooms)
        self.assertEqual([stock_has(TURNS, ((1,),), (2,)), plain(TURNS, 0, (2,))], [True, (2,)])


if __name__ == "__main__":
    unittest.main()
