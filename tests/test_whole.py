"""What is promised over the whole program: [0.1] to [0.7], [0.18] to [0.24], [14.1], [15.1] to [15.4], [16.6] and [18.4]."""

import itertools
import unittest

from treerooms.counts.forms import far_ties, places_number
from treerooms.counts.stocks import free_number, stocks_number
from treerooms.counts.sums import are_sums_equal, renaming_led, sum_divisors, sum_order
from treerooms.kin.changes import all_needed, begun_at, drawn_together, halved, put_in
from treerooms.kin.slides import are_kin, is_kin_steps, kin_steps, renamed, slid, tie_turned
from treerooms.trees.alike import are_alike
from treerooms.trees.lines import is_line, kind_of, length_of, line, order_of
from treerooms.trees.tree import is_still, moved, neighbours, still_lots
from treerooms.webs.plain import are_equal, contrary, is_nothing, product
from treerooms.webs.roads import least_ties
from treerooms.webs.webs import Web, fraction, needed_ties
from treerooms.worlds.common import common_index
from treerooms.worlds.cores import are_alike_stocks, are_one_stock, is_long_stock, stock_has, stock_index
from treerooms.worlds.free import ends, free_base, free_rank, is_free_base, words_number
from treerooms.worlds.own import free_paper, own_web, stock_fraction
from treerooms.worlds.worlds import has_all_pairs, is_nothing_paper, nothing_paper, walked

from tests.makers import is_needed_tie, put_through, told, words_of
from tests.second import any_plain, back, fraction_of, reading_of, turned
from tests.support import (
    DOWN, FLAT, FOUR, FREE23, HALVES, IDLE, LINE, LOOP, SHARED, STAR, TURNS, TWO, WEBS, chances,
)
from tests.test_changes import DRAWN
from tests.test_slides import all_names, behind, some_names, some_step

SMALL_SIZES = {name: web for name, web in {**WEBS, **DRAWN}.items() if max(room.size for room in web.rooms) <= 6}


def led_by_change(change):
    return change.web, change.there


def led_by_step(web, step):
    """The web behind a slide or a turn, and how words are led there, as [15.4] tells."""
    goal = behind(web, step)
    name, tie, by = step
    undo = reading_of(web).contraries[told(web, tie)[0]][by] if name == "turn" else None

    def steps(entry):
        if name == "slide" and abs(entry) == abs(tie):
            return (0, by, 0, tie, 0) if entry == tie else (0, -tie, 0, -by, 0)
        if abs(entry) == abs(tie):
            return (undo, tie, 0) if entry == tie else (0, -tie, by)
        return (0, entry, 0)

    return goal, lambda word: any_plain(goal, put_through(web, goal, word, lambda at: at, lambda at, member: (member,), steps))


def led_by_names(web, names):
    """The renamed web, and how words are led there, if the point 0 stays."""
    rooms, points, rows, ties = names
    goal = renamed(web, rooms, points, rows, ties)

    def steps(entry):
        name = ties[abs(entry) - 1]
        return (0, name if entry > 0 else -name, 0)

    return goal, lambda word: any_plain(goal, put_through(web, goal, word, lambda at: points[at], lambda at, member: (rows[at][member],), steps))


def some_ways(chance, web):
    """Webs with ways to lead words there: by changes, slides, turned ties and renamings."""
    found = [led_by_change(all_needed(web)), led_by_change(begun_at(web, chance.randrange(web.points)))]
    found += [led_by_change(drawn_together(web, tie)) for tie in range(1, web.size + 1) if not is_needed_tie(web, tie)][:2]
    if web.points < 5 and web.size < 6:
        found.append(led_by_change(put_in(web, chance.randrange(web.points), (0,))))
        found += [led_by_change(halved(web, chance.randrange(web.size) + 1))] if web.size else []
    for _ in range(3 if web.size else 0):
        found.append(led_by_step(web, some_step(chance, web)))
    names = some_names(chance, web)
    if names[1][0] == 0:
        found.append(led_by_names(web, names))
    return found


class AheadAndBehind(unittest.TestCase):
    def test_webs(self):
        chance = chances(1)
        for web in SMALL_SIZES.values():
            for goal, _ in some_ways(chance, web):
                self.assertEqual((fraction(goal), ends(goal), words_number(goal)), (fraction(web), ends(web), words_number(web)))
                self.assertEqual(sum_divisors(goal), sum_divisors(web))
                self.assertEqual([stocks_number(goal, many) for many in (1, 2, 3, 4)], [stocks_number(web, many) for many in (1, 2, 3, 4)])
                self.assertEqual([free_number(goal, many) for many in (2, 6, 12)], [free_number(web, many) for many in (2, 6, 12)])
                self.assertEqual([free_rank(goal, many) for many in (1, 2, 6, 12)], [free_rank(web, many) for many in (1, 2, 6, 12)])

    def test_words(self):
        chance = chances(2)
        many = 0
        for web in list(WEBS.values()) + list(DRAWN.values()):
            for goal, lead in some_ways(chance, web):
                words = [word for word in words_of(chance, web, 5, 4) if len(lead(word)) <= 121]
                for one, other in itertools.combinations(words, 2):
                    many += 1
                    led, second = lead(one), lead(other)
                    self.assertEqual(product(goal, led, second), lead(product(web, one, other)))
                    self.assertEqual(contrary(goal, led), lead(contrary(web, one)))
                    self.assertIs(are_equal(goal, led, second), are_equal(web, one, other))
                    self.assertIs(are_alike(goal, led, second), are_alike(web, one, other))
                    self.assertEqual((order_of(goal, led), sum_order(goal, led)), (order_of(web, one), sum_order(web, one)))
                    self.assertIs(are_sums_equal(goal, led, second), are_sums_equal(web, one, other))
                    self.assertIs(length_of(goal, led) == 0, length_of(web, one) == 0)
                    self.assertIs(is_nothing(goal, led), is_nothing(web, one))
        self.assertGreater(many, 500)

    def test_still_words(self):
        # Ties that are all needed keep the words that leave all places.
        chance = chances(3)
        for web in list(WEBS.values()):
            left = all_needed(web).web
            for goal, lead in some_ways(chance, left):
                if needed_ties(goal) != tuple(range(1, goal.size + 1)):
                    continue
                for word in words_of(chance, left, 4, 3) + [(member,) for member in range(left.rooms[0].size)]:
                    if len(lead(word)) <= 121:
                        self.assertIs(is_still(goal, lead(word)), is_still(left, word))

    def test_lengths(self):
        # The tree stays behind renamings, and where the web is begun elsewhere.
        chance = chances(4)
        for web in list(WEBS.values()):
            ways = [led_by_change(begun_at(web, point)) for point in range(web.points)]
            for _ in range(4):
                names = some_names(chance, web)
                if names[1][0] == 0:
                    ways.append(led_by_names(web, names))
            for goal, lead in ways:
                for word in words_of(chance, web, 5, 5):
                    if len(lead(word)) <= 121:
                        self.assertEqual(length_of(goal, lead(word)), length_of(web, word))

    def test_stocks(self):
        chance = chances(5)
        seen = set()
        for web in [WEBS[name] for name in ("free", "flat", "loop", "turns", "star", "down", "line", "double")] + list(DRAWN.values())[:8]:
            for goal, lead in some_ways(chance, web):
                stocks = [tuple(words_of(chance, web, 1 + chance.randrange(3), 3)) for _ in range(2)]
                led = [tuple(lead(word) for word in stock) for stock in stocks]
                if max(len(word) for stock in led for word in stock) > 121:
                    continue
                one, other = stocks
                seen.add(stock_index(web, one) is None)
                self.assertEqual(stock_index(goal, led[0]), stock_index(web, one))
                self.assertEqual(common_index(goal, *led), common_index(web, *stocks))
                self.assertIs(are_one_stock(goal, *led), are_one_stock(web, *stocks))
                self.assertIs(is_long_stock(goal, led[0]), is_long_stock(web, one))
                self.assertEqual(stock_fraction(goal, led[0]), stock_fraction(web, one))
                self.assertEqual(free_paper(goal, led[0])[0], free_paper(web, one)[0])
                self.assertEqual(sum_divisors(own_web(goal, led[0])), sum_divisors(own_web(web, one)))
                for word in words_of(chance, web, 3, 3) + list(other):
                    if len(lead(word)) <= 121:
                        self.assertIs(stock_has(goal, led[0], lead(word)), stock_has(web, one, word))
                if is_long_stock(web, one) and is_long_stock(web, other):
                    self.assertIs(are_alike_stocks(goal, *led), are_alike_stocks(web, *stocks))
        self.assertEqual(seen, {True, False})

    def test_names_that_keep_the_web(self):
        chance = chances(6)
        for web in (FREE23, FLAT, TURNS, STAR, Web((HALVES,), ((0, 0, IDLE), (0, 0, IDLE)))):
            for names in [names for names in all_names(web, web) if names[0][0] == 0][:8]:
                goal, lead = led_by_names(web, (web.rooms,) + names)
                self.assertEqual(goal, web)
                for word in words_of(chance, web, 4):
                    self.assertEqual(any_plain(web, renaming_led(web, names, word)), lead(word))


class Statements(unittest.TestCase):
    def test_one_fraction(self):
        # [0.18]
        for web in list(WEBS.values()) + list(DRAWN.values()):
            whole = fraction_of(web)
            self.assertIs(words_number(web) is None, whole <= 0)
            if whole > 0:
                self.assertEqual(sum(places_number(web, ties) for ties in range(2 * web.size + 1)) > 0, True)
                continue
            for many in range(1, 40):
                rank = free_rank(web, many)
                wanted = all(many % room.size == 0 for room in web.rooms)
                self.assertIs(rank is not None, wanted)
                if wanted:
                    self.assertEqual(rank, 1 - many * whole)
                    base = free_base(web, many)
                    self.assertTrue(len(base) == rank and is_free_base(web, many, base))
            if whole == 0:
                many = next(many for many in range(1, 200) if free_rank(web, many))
                (word,) = free_base(web, many)
                self.assertIsNone(order_of(web, word))
                self.assertEqual(stock_index(web, (word,)), many)

    def test_nothing_or_moved(self):
        # [0.19]
        chance = chances(7)
        for web in (FREE23, FLAT, LOOP, STAR, DOWN, TURNS, LINE):
            for word in words_of(chance, web, 12, 5):
                paper = nothing_paper(web, word)
                self.assertIs(is_nothing_paper(web, word, paper), True)
                self.assertIs(paper == ("nothing",), is_nothing(web, word))
                if paper != ("nothing",):
                    self.assertNotEqual(walked(paper[1], 0, paper[2], word), (0, paper[2]))
                    self.assertIs(is_nothing_paper(web, word, ("nothing",)), False)
                    self.assertTrue(has_all_pairs(paper[1]))
                else:
                    # No spot of a full free world is moved.
                    other = nothing_paper(web, (web.rooms[0].size - 1,))
                    if other != ("nothing",):
                        self.assertIs(is_nothing_paper(web, word, other), False)

    def test_coming_round(self):
        # [0.21]
        chance = chances(8)
        for web in list(WEBS.values()):
            for word in words_of(chance, web, 6, 5):
                kind, point, part, by = kind_of(web, word)
                if kind == "round":
                    self.assertEqual(order_of(web, word), web.rooms[point].order(part))
                    self.assertEqual(any_plain(web, by[:-1] + (part,) + back(web, by)[1:]), any_plain(web, word))
                else:
                    row = line(web, word, 5)
                    self.assertIs(is_line(web, word, 5, row), True)
                    self.assertEqual(far_ties(web, word, 2) - far_ties(web, word, 1), length_of(web, word))
                    self.assertEqual(least_ties(web, 0, word), far_ties(web, word, 1))

    def test_still_members(self):
        # [0.22]
        chance = chances(9)
        for web in list(WEBS.values()):
            near = {()}
            for _ in range(3):
                near |= {place for one in sorted(near)[:20] for place in neighbours(web, one)}
            for word in words_of(chance, web, 5, 3) + [(member,) for member in range(web.rooms[0].size)]:
                form = any_plain(web, word)
                self.assertIs(is_still(web, word), len(form) == 1 and form[0] in still_lots(web)[0])
                if is_still(web, word):
                    self.assertTrue(all(moved(web, word, place) == place for place in near))

    def test_slides(self):
        # [0.23]: kin webs agree in all that is told of their words.
        chance = chances(10)
        for web in (FREE23, FLAT, LOOP, STAR, TURNS, LINE, SHARED):
            if web.size > 3:
                continue
            goal = web
            for _ in range(4):
                goal = behind(goal, some_step(chance, goal))
            goal = renamed(goal, *some_names(chance, goal))
            steps = kin_steps(web, goal)
            self.assertIs(is_kin_steps(web, goal, steps), True)
            self.assertEqual([stocks_number(web, many) for many in range(1, 6)], [stocks_number(goal, many) for many in range(1, 6)])
            self.assertEqual((sum_divisors(web), fraction(web)), (sum_divisors(goal), fraction(goal)))
        self.assertEqual([slid(STAR, 2, 1).ties, tie_turned(FLAT, 1, 1)], [((0, 1, IDLE), (1, 2, IDLE)), FLAT])

    def test_what_is_not_true(self):
        # [0.24]
        self.assertEqual((is_nothing(LOOP, (1,)), is_still(LOOP, (1,))), (False, True))
        fours, twos = Web((FOUR, FOUR), ((0, 1, IDLE),)), Web((TWO, TWO, TWO), ((0, 1, IDLE), (0, 2, IDLE)))
        self.assertEqual((fraction(fours), fraction(twos), are_kin(fours, twos)), ((-1, 2), (-1, 2), False))
        self.assertNotEqual(sum_divisors(fours), sum_divisors(twos))
        # The words that leave one of three spots, which the words of the room 0 exchange and those of the room 1 lead around.
        step, stock = (0, 1, 1, -1, 0), ((1,), (0, 1, 1, -1, 1, 1, 1, -1, 0))
        other = tuple(turned(FREE23, word, step) for word in stock)
        self.assertEqual((stock_index(FREE23, stock), stock_index(FREE23, other), are_one_stock(FREE23, stock, other)), (3, 3, False))


if __name__ == "__main__":
    unittest.main()
