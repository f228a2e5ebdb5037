"""Stage 8: words that are alike, [0.14], [0.21] and [8.1] to [8.6]."""

import itertools
import unittest

from treerooms.errors import InvalidNumber, InvalidRoad
from treerooms.base.rooms import Room
from treerooms.trees.alike import are_alike, between, is_between, member_classes, stays_between
from treerooms.trees.lines import kind_of, length_of, order_of
from treerooms.webs.plain import contrary, plain, plain_words, power, product
from treerooms.webs.webs import Web

from tests.second import any_plain, back, joined, reading_of, turned, winding_word
from tests.support import (
    DEEP, DOWN, FLAT, FOUR, FREE23, HALVES, IDLE, JUDGED, LOOP, SHARED, SIX, THREE, TURNS, TWO, WEBS, WHOLE, Reading,
    chances, check_arguments, check_error, check_judged, compose, line_road, numbers, roads_wrong, webs_wrong,
)
from tests.test_lines import FAR, FURTHER, some_words
from tests.test_plain import as_count, as_shift, as_table
from tests.test_tree import LONG, NO_WORDS

ONE, BACK = (1, 1, 1, -1, 0), (0, 1, 1, -1, 1)
MORE = dict(WEBS)
MORE["turned loops"] = Web((SIX,), ((0, 0, IDLE + ((1, 2),)), (0, 0, ((0, 0), (3, 4), (4, 3)))))
MORE["all fours"] = Web((FOUR, HALVES, FOUR), ((0, 1, IDLE + ((2, 1),)), (1, 2, IDLE + ((2, 2),)), (2, 0, IDLE)))
# The members 1, 2 and 3 are led around by one tie.
MORE["round"] = Web((HALVES,), ((0, 0, ((0, 0), (1, 2), (2, 3), (3, 1))),))


def by_meeting(web):
    """All classes of pairs (point, member), by putting together until nothing changes."""
    marks = {(point, member): (point, member) for point, room in enumerate(web.rooms) for member in range(room.size)}
    reading = reading_of(web)
    links = []
    for (point, member) in marks:
        for by in range(web.rooms[point].size):
            turned_one = reading.tables[point][reading.tables[point][by][member]][reading.contraries[point][by]]
            links.append(((point, member), (point, turned_one)))
    for begin, end, pairs in web.ties:
        links += [((begin, a), (end, b)) for a, b in pairs]
    changed = True
    while changed:
        changed = False
        for one, other in links:
            least = min(marks[one], marks[other])
            changed |= marks[one] != least or marks[other] != least
            marks[one] = marks[other] = least
    return tuple(sorted(
        tuple(sorted(pair for pair in marks if marks[pair] == mark)) for mark in set(marks.values())
    ))


class Members(unittest.TestCase):
    def test_classes(self):
        for web in MORE.values():
            self.assertEqual(member_classes(web), by_meeting(web))
            zero = next(row for row in member_classes(web) if (0, 0) in row)
            self.assertEqual(zero, tuple((point, 0) for point in range(web.points)))
        self.assertEqual(member_classes(MORE["round"]), (((0, 0),), ((0, 1), (0, 2), (0, 3))))

    def test_stays_between(self):
        lengths = set()
        for name, web in sorted(MORE.items()):
            reading = Reading(web)
            pairs = [(point, member) for point, room in enumerate(web.rooms) for member in range(room.size)]
            rows = by_meeting(web)
            chance = chances(1)
            some = list(itertools.product(pairs, repeat=2))
            for one, other in some if len(some) < 300 else chance.sample(some, 300):
                road = stays_between(web, *one, *other)
                alike = any(one in row and other in row for row in rows)
                self.assertIs(road is not None, alike, (name, one, other))
                if alike:
                    self.assertTrue(reading.is_road(one[0], road) and reading.end(one[0], road) == other[0])
                    self.assertLess(len(road) // 2, len(pairs))
                    lengths.add(len(road) // 2)
                    # Put behind a way to the point, both sides are words that can be compared.
                    for way in self.ways_to(web, one[0]):
                        there = joined(web, way, road, (other[1],), back_from(web, one[0], road), back(web, way))
                        self.assertEqual(any_plain(web, there), any_plain(web, joined(web, way, (one[1],), back(web, way))))
        self.assertGreater(max(lengths), 2)

    def ways_to(self, web, point):
        """One short road from the point 0 to a point."""
        reading = reading_of(web)
        for ties in range(4):
            found = [road for road in reading.all_roads(0, ties)[:3000] if reading.end(0, road) == point]
            if found:
                return found[:1]
        return []

    def test_wrong_arguments(self):
        members = numbers(2, -1, 3)
        check_arguments(self, stays_between, (FREE23, 0, 1, 0, 1), [webs_wrong(), numbers(2, -1), members, numbers(2, -1), members])
        check_arguments(self, stays_between, (FREE23, 1, 2, 1, 2), [webs_wrong(), numbers(2, -1), numbers(3, -1), numbers(2, -1), numbers(3, -1)])
        check_error(self, InvalidNumber(2), stays_between, (FREE23, 0, 2, 1, 1))
        check_error(self, InvalidNumber(3), stays_between, (FREE23, 0, 1, 1, 3))
        check_error(self, InvalidNumber(7), stays_between, (FREE23, 7, 9, 8, 10))
        check_error(self, InvalidNumber(9), stays_between, (FREE23, 1, 9, 8, 10))
        check_arguments(self, member_classes, (FREE23,), [webs_wrong()])


def back_from(web, point, road):
    """A road from a point, gone back."""
    reading = reading_of(web)
    stops = reading.stops(point, road)
    row = [reading.contraries[stops[at // 2]][entry] if at % 2 == 0 else -entry for at, entry in enumerate(road)]
    return tuple(row[::-1])


def flat_alike(one, other):
    """Whether x to sign x + shift are led to one another by such maps: shifts up to sign, mirrors up to even shifts."""
    if one[0] != other[0]:
        return False
    if one[0] == 1:
        return abs(one[1]) == abs(other[1])
    return (one[1] - other[1]) % 2 == 0


class Alike(unittest.TestCase):
    def check(self, web, one, other, wanted):
        word = between(web, one, other)
        self.assertIs(are_alike(web, one, other), wanted)
        self.assertIs(word is not None, wanted)
        if wanted:
            self.assertTrue(reading_of(web).is_road(0, word) and reading_of(web).end(0, word) == 0)
            self.assertLessEqual(len(word) // 2, 400)
            self.assertEqual(turned(web, one, word), any_plain(web, other))
            self.assertIs(is_between(web, one, other, word), True)
        self.assertIs(is_between(web, one, other, None), False)

    def test_turned_words_are_alike(self):
        for web in MORE.values():
            chance = chances(2)
            for word in some_words(web, 8, 8, 3):
                for _ in range(2):
                    by = winding_word(chance, web, chance.randrange(4))
                    other = turned(web, word, by)
                    if len(other) <= 121:
                        self.check(web, word, other, True)
                        self.assertIs(is_between(web, word, other, by), True)

    def test_words_that_are_alike_by_few_ties(self):
        for name in ("free", "flat", "loop", "turns", "down", "double", "turned loops", "round", "line", "lone"):
            web = MORE[name]
            words = [word for ties in range(3) for word in plain_words(web, ties)][:40]
            bys = [word for ties in range(5) for word in plain_words(web, ties)] if name in ("free", "flat", "loop", "turns") else words
            for one in words[::2]:
                goals = {turned(web, one, by) for by in bys}
                for other in words:
                    self.assertTrue(other not in goals or are_alike(web, one, other), (name, one, other))
                    if are_alike(web, one, other):
                        self.check(web, one, other, True)
                    else:
                        self.assertNotIn(other, goals)

    def test_pictures(self):
        for web, picture, wanted in (
            (FLAT, as_shift, flat_alike), (LOOP, as_count, lambda one, other: one == other),
        ):
            words = some_words(web, 12, 12, 4)
            for one, other in itertools.product(words, repeat=2):
                self.check(web, one, other, wanted(picture(one), picture(other)))

    def test_tables_that_are_alike_have_one_sum(self):
        words = some_words(FREE23, 14, 10, 5)
        for one, other in itertools.product(words, repeat=2):
            alike = are_alike(FREE23, one, other)
            if alike:
                self.assertEqual(abs(as_table(one)[0] + as_table(one)[3]), abs(as_table(other)[0] + as_table(other)[3]))
            self.check(FREE23, one, other, alike)
            self.assertIs(are_alike(FREE23, other, one), alike)

    def test_finite_webs(self):
        # The words of a lone room are its members; DOWN has the words of the room of four.
        for room in (SIX, WHOLE, Room(4, ((1, 2, 3, 0), (2, 1, 0, 3)))):
            web = Web.lone(room)
            for one, other in itertools.product(range(room.size), repeat=2):
                wanted = any(
                    compose(room.members[by], room.members[one]) == compose(room.members[other], room.members[by])
                    for by in range(room.size)
                )
                self.check(web, (one,), (other,), wanted)
        words = [(0,), (1,), (0, 1, 1, -1, 0), (0, 1, 3, -1, 0), (1, 1, 1, -1, 0)]
        for one, other in itertools.product(words, repeat=2):
            self.check(DOWN, one, other, plain(DOWN, 0, one) == plain(DOWN, 0, other))

    def test_kinds_orders_and_lengths(self):
        for web in MORE.values():
            words = some_words(web, 8, 5, 6)
            for one, other in itertools.product(words, repeat=2):
                if are_alike(web, one, other):
                    self.assertEqual(kind_of(web, one)[0], kind_of(web, other)[0])
                    self.assertEqual((order_of(web, one), length_of(web, one)), (order_of(web, other), length_of(web, other)))
                if any_plain(web, one) == (0,):
                    self.assertIs(are_alike(web, one, other), any_plain(web, other) == (0,))

    def test_powers(self):
        for web in MORE.values():
            for word in some_words(web, 5, 3, 7):
                if order_of(web, word) is None:
                    for many in (2, 3, -2, 5):
                        if len(power(web, word, many)) <= 121:
                            self.assertIs(are_alike(web, word, power(web, word, many)), False)
                by = (0,) if web.size == 0 else winding_word(chances(8), web, 2)
                other = turned(web, word, by)
                for many in (2, 3, -1):
                    if max(len(power(web, word, many)), len(power(web, other, many))) <= 121:
                        self.assertIs(are_alike(web, power(web, word, many), power(web, other, many)), True)
                        self.assertIs(is_between(web, power(web, word, many), power(web, other, many), by), True)

    def test_all_words_between(self):
        for web in (FREE23, LOOP, TURNS, SHARED, DEEP, MORE["turned loops"]):
            for one in some_words(web, 4, 4, 9):
                other = turned(web, one, winding_word(chances(10), web, 3))
                if len(other) > 121:
                    continue
                by = between(web, one, other)
                for stay in some_words(web, 4, 3, 11) + [one]:
                    led = joined(web, by, stay)
                    wanted = any_plain(web, joined(web, stay, one)) == any_plain(web, joined(web, one, stay))
                    self.assertIs(is_between(web, one, other, led), wanted)
                # Any number of ties, and any equal word.
                long_by = joined(web, by, *[one] * 50)
                self.assertIs(is_between(web, one, other, long_by), True)
                self.assertIs(is_between(web, one, other, any_plain(web, long_by)), True)

    def test_the_longest_words(self):
        core = (0,) + (1, 1, -1, 1) * 29 + (1, 2, -1, 1)
        self.assertEqual(len(core) // 2, 60)
        for by in ((1,), (0, 1, 1, -1, 1, 1, 2, -1, 0), core[:41]):
            other = turned(FREE23, core, by)
            if len(other) <= 121:
                self.check(FREE23, core, other, True)
        tail = (0,) + (1, 1, -1, 1) * 14 + (1, 1, -1, 0)
        for member, other_tail in itertools.product(((1,), (0, 1, 1, -1, 0)), (tail, back(FREE23, tail))):
            one, other = turned(FREE23, member, tail), turned(FREE23, member, other_tail)
            if max(len(one), len(other)) <= 121:
                self.check(FREE23, one, other, True)
        deep = turned(LOOP, (1,), (0,) + (1, 0) * 30)
        self.check(LOOP, deep, (1,), True)
        turns = (1,) + (1, 1, 1, 2) * 30
        self.check(TURNS, turns, turned(TURNS, turns, (2,)), True)

    def test_judged_words(self):
        check_judged(self, is_between, (FREE23, ONE, BACK), NO_WORDS + JUDGED + ((0,), (0, 1, 2, -1, 0), None, LONG + (0,)))
        for value in ((1,), (0, 1, 1, -1, 0), product(FREE23, (1,), ONE), line_road(FREE23, 400)[:-1] + (1,)):
            self.assertIs(is_between(FREE23, ONE, BACK, value), True)
        self.assertIs(is_between(FREE23, ONE, BACK, (True,)), False)
        self.assertIs(is_between(FREE23, (0,), (1, 1, 0, -1, 1), FURTHER), True)
        self.assertIs(is_between(FREE23, ONE, BACK, line_road(FREE23, 401)), False)

    def test_wrong_arguments(self):
        words = roads_wrong(*NO_WORDS)
        for function in (are_alike, between):
            check_arguments(self, function, (FREE23, ONE, BACK), [webs_wrong(), words, words])
        check_arguments(self, is_between, (FREE23, ONE, BACK, None), [webs_wrong(), words, words, []])
        for function, rest in ((are_alike, ()), (between, ()), (is_between, (None,))):
            check_error(self, InvalidRoad(""), function, (FREE23, FURTHER, ONE) + rest)
            check_error(self, InvalidRoad(""), function, (FREE23, ONE, FURTHER) + rest)
            function(FREE23, FAR, FAR, *rest)

    def test_what_is_not_true(self):
        self.assertEqual((member_classes(TURNS)[1], are_alike(Web.lone(THREE), (1,), (2,))), (((0, 1), (0, 2)), False))
        self.assertIs(are_alike(FREE23, ONE, contrary(FREE23, ONE)), False)
        one, other = (1, 1, 1, -1, 0), (1, 1, 2, -1, 0)
        self.assertEqual((one[1::2], length_of(FREE23, one), length_of(FREE23, other)), (other[1::2], 2, 2))
        self.assertIs(are_alike(FREE23, one, other), False)
        six = Web((SIX, TWO), ((0, 1, IDLE),))
        self.assertEqual([row for row in member_classes(six) if (0, 3) in row], [((0, 3), (0, 4))])


if __name__ == "__main__":
    unittest.main()
