"""Stage 7: words that come round, and lines of long words, [0.17], [0.21] and [7.1] to [7.6]."""

import itertools
import unittest

from treerooms.errors import InvalidNumber, InvalidRoad, Refused
from treerooms.trees import lines
from treerooms.trees.lines import (
    common_place, is_common_place, is_kind, is_line, kind_of, length_of, line, moved_by, on_line, order_of,
)
from treerooms.trees.tree import distance, is_place, moved, place_of, way
from treerooms.webs.plain import are_equal, contrary, is_nothing, power, product
from treerooms.webs.webs import Web

from tests.second import any_plain, back, joined, reading_of, turned, winding_word
from tests.support import (
    DEEP, DOWN, FLAT, FREE23, IDLE, JUDGED, LINE, LOOP, SHARED, SIX, SMALL, THREE, TURNS, TWO, WEBS, WIDE, Reading, chances,
    check_arguments, check_error, check_judged, line_road, numbers, roads_wrong, webs_wrong,
)
from tests.test_tree import LONG, LONGER, NO_PLACES, NO_WORDS, are_neighbours, places

ONE, THIRD = (1, 1, 1, -1, 0), (0, 1, 1, -1, 0)
# A word with 60 ties, and the same with two more.
FAR = (1,) + (1, 1, -1, 1) * 30
FURTHER = FAR + (1, 2, -1, 0)


def some_words(web, many, ties, seed):
    """Words of the web, some with turns, some that come round."""
    chance, reading = chances(seed), Reading(web)
    words = [(member,) for member in range(web.rooms[0].size)][:4]
    for _ in range(many):
        words.append(reading.some_word(chance, chance.randrange(ties + 1)))
        words.append(winding_word(chance, web, chance.randrange(ties // 2 + 1)))
        words.append(turned(web, (chance.randrange(web.rooms[0].size),), winding_word(chance, web, chance.randrange(3))))
    return [word for word in words if len(word) <= 121]


def powers_to_nothing(web, word):
    """The least power from 1 to 24 that is nothing, None if there is none."""
    whole = word
    for many in range(1, 25):
        if any_plain(web, whole) == (0,):
            return many
        whole = any_plain(web, joined(web, whole, word))
    return None


def check_kind(test, web, word, paper):
    """The paper is as told in [7.1]."""
    reading = reading_of(web)
    kind, point, part, by = paper
    test.assertTrue(reading.is_road(0, by) and reading.end(0, by) == point)
    middle = (part,) if kind == "round" else part
    test.assertTrue(reading.is_road(point, middle) and reading.end(point, middle) == point)
    test.assertEqual(any_plain(web, joined(web, by, middle, back(web, by))), any_plain(web, word))
    if kind == "round":
        test.assertIs(type(part), int)
        return
    test.assertEqual(kind, "long")
    test.assertGreater(len(part), 1)
    test.assertEqual(reading.pinches(part), ())
    if part[1] == -part[-2]:
        test.assertNotIn(reading.tables[point][part[-1]][part[0]], reading.sides[part[1]][2])


class Kinds(unittest.TestCase):
    def test_constants(self):
        self.assertEqual((lines.MOST_POWER, lines.MOST_STEPS), (40, 100))

    def test_papers(self):
        for name, web in sorted(WEBS.items()):
            kinds = []
            for word in some_words(web, 20, 8, 1):
                paper = kind_of(web, word)
                kinds.append(paper[0])
                check_kind(self, web, word, paper)
                self.assertLessEqual(max(len(part) for part in paper if isinstance(part, tuple)), 401)
                self.assertIs(is_kind(web, word, paper), True, (name, word))
                order = powers_to_nothing(web, word)
                self.assertEqual(paper[0] == "round", order is not None)
                self.assertEqual(order_of(web, word), order)
                self.assertEqual(length_of(web, word), 0 if order else len(paper[2]) // 2)
            self.assertIn("round", kinds)

    def test_long_words(self):
        check_kind(self, FREE23, FAR, kind_of(FREE23, FAR))
        self.assertEqual((kind_of(FREE23, FAR)[0], length_of(FREE23, FAR)), ("long", 58))
        around = (0,) + (1, 0) * 60
        self.assertEqual((length_of(LOOP, around), order_of(LOOP, around)), (60, None))
        self.assertEqual(kind_of(LOOP, around), ("long", 0, around, (0,)))
        deep = (0,) + (1, 1, -1, 1) * 14 + (1, 1, -1, 1, 1, 2, -1, 1) + (1, 2, -1, 1) * 14
        self.assertEqual(len(deep) // 2, 60)
        check_kind(self, FREE23, deep, kind_of(FREE23, deep))
        for function in (kind_of, order_of, length_of):
            check_error(self, InvalidRoad(""), function, (FREE23, FURTHER))

    def test_other_papers_of_one_word(self):
        for web in (FREE23, LOOP, SHARED, DEEP, WIDE, TURNS, DOWN):
            reading, chance = Reading(web), chances(2)
            for word in some_words(web, 6, 5, 3):
                kind, point, part, by = kind_of(web, word)
                for _ in range(4):
                    member = chance.randrange(web.rooms[point].size)
                    table, undone = reading.tables[point], reading.contraries[point][member]
                    other_by = joined(web, by, (member,))
                    if kind == "round":
                        other = table[table[undone][part]][member]
                    else:
                        other = (table[undone][part[0]],) + part[1:-1] + (table[part[-1]][member],)
                    paper = (kind, point, other, other_by)
                    check_kind(self, web, word, paper)
                    self.assertIs(is_kind(web, word, paper), True)
                    # The road there can be any equal one, with any number of ties.
                    long_by = joined(web, other_by, *[(0, tie, 0, -tie, 0) for tie in reading.beginnings(point)] * 40)
                    self.assertIs(is_kind(web, word, (kind, point, other, long_by)), True)
                    if kind == "round":
                        changed = (other + 1) % web.rooms[point].size
                        self.assertIs(is_kind(web, word, (kind, point, changed, long_by)), changed == other)
                if kind == "long":
                    # Begun at another stay; the core behind itself is the square of the word.
                    rest = part[:-1] + (reading.tables[point][part[-1]][part[0]],) + part[1:2] + (0,)
                    moved_by_one = (rest[2:], reading.sides[part[1]][1], joined(web, by, part[:2] + (0,)))
                    self.assertIs(is_kind(web, word, (kind, moved_by_one[1], moved_by_one[0], moved_by_one[2])), True)
                    twice = part[:-1] + (reading.tables[point][part[-1]][part[0]],) + part[1:]
                    self.assertIs(is_kind(web, word, (kind, point, twice, by)), False)
                    self.assertIs(is_kind(web, any_plain(web, joined(web, word, word)), (kind, point, twice, by)), True)

    def test_papers_that_are_refused(self):
        long_word, round_word = ("long", 0, ONE, (0,)), ("round", 1, 1, (0, 1, 0))
        cases = [
            ("long", 0, ONE), ("long", 0, ONE, (0,), 0), ("round", 0, ONE, (0,)), ("long", False, ONE, (0,)), ("long", 0, ONE, (False,)),
            ("long", 0, ONE, (1,)), ("long", 0, ONE, 0), ("long", 0, list(ONE), (0,)), ["long", 0, ONE, (0,)], ("Long", 0, ONE, (0,)),
            ("long", 2, ONE, (0,)), ("long", -1, ONE, (0,)), ("long", 1, ONE, (0,)), ("long", 0, (0,), (0,)), ("long", 0, (1,), (0,)),
            (None, 0, ONE, (0,)), ("long", 0, ONE, (0, 1, 0)), ("long", 10 ** 70, ONE, (0,)), ("long", 0, ONE, (0, 1, 10 ** 4000)),
            ("long", 0, (1, 1, 0, -1, 0, 1, 1, -1, 0), (0,)), ("long", 0, (1, 1, 1, -1, True), (0,)), ("long", 0, None, (0,)),
        ]
        check_judged(self, is_kind, (FREE23, ONE), cases + [round_word] + list(JUDGED))
        # A pinch at the seam alone: the word is alike to ONE, but this is no core.
        seam = turned(FREE23, ONE, (0, 1, 2, -1, 0))
        self.assertEqual((len(seam) // 2, length_of(FREE23, seam)), (4, 2))
        self.assertIs(is_kind(FREE23, seam, ("long", 0, seam, (0,))), False)
        check_judged(self, is_kind, (FREE23, THIRD), [
            long_word, ("round", 1, True, (0, 1, 0)), ("round", 1, 2, (0, 1, 0)), ("round", 0, 1, (0,)), ("round", 1, (1,), (0, 1, 0)),
            ("round", 1, 3, (0, 1, 0)), ("round", 0, 1, (0, 1, 0)), ("round", 1, 1, (1, 1, 0)), ("round", 1, -1, (0, 1, 0)),
            ("long", 0, THIRD, (0,)), ("round", 1, 1, (0, 1)), ("round", 1, None, (0, 1, 0)), (1, 1, 1, (0, 1, 0)),
        ])
        self.assertIs(is_kind(FREE23, THIRD, round_word), True)
        self.assertIs(is_kind(FREE23, ONE, long_word), True)

    def test_wrong_arguments(self):
        words = roads_wrong(*NO_WORDS)
        for function in (kind_of, order_of, length_of):
            check_arguments(self, function, (FREE23, ONE), [webs_wrong(), words])
        check_arguments(self, is_kind, (FREE23, ONE, None), [webs_wrong(), words, []])


class Lengths(unittest.TestCase):
    def test_least_distance_moved(self):
        for name, web in sorted(SMALL.items()):
            known = places(web, 3)[:150]
            for word in some_words(web, 8, 4, 4):
                if len(word) > 9:
                    continue
                length = length_of(web, word)
                told = [moved_by(web, word, place) for place in known]
                self.assertEqual(told, [distance(web, place, moved(web, word, place)) for place in known])
                near = [place for place, many in zip(known, told) if many == length]
                self.assertTrue(near, (name, word))
                self.assertEqual(min(told), length)
                # A place at the distance d of those that are moved least is moved by 2 d more.
                deep = {place for place in known if len(place) <= 2}
                for place, many in zip(known, told):
                    if place in deep:
                        self.assertEqual(many, length + 2 * min(distance(web, place, other) for other in near))

    def test_powers_and_alike_words(self):
        for web in WEBS.values():
            for word in some_words(web, 6, 4, 5):
                length, order = length_of(web, word), order_of(web, word)
                for many in (-40, -7, -1, 0, 1, 2, 3, 40):
                    whole = power(web, word, many)
                    if len(whole) <= 121:
                        self.assertEqual(length_of(web, whole), abs(many) * length)
                        if order is None:
                            self.assertIs(is_nothing(web, whole), many == 0)
                        else:
                            self.assertIs(is_nothing(web, whole), many % order == 0)
                for by in some_words(web, 2, 3, 6):
                    other = turned(web, word, by)
                    if len(other) <= 121:
                        self.assertEqual((length_of(web, other), order_of(web, other)), (length, order))

    def test_moved_by_takes_far_places(self):
        self.assertEqual(moved_by(FREE23, (1,), LONG), 120)
        self.assertEqual(moved_by(FREE23, (1, 1, 0, -1, 1), LONG), 0)
        self.assertEqual(moved_by(LOOP, (0,) + (1, 0) * 60, (0, 1) * 60), 60)
        for function in (moved_by, on_line):
            check_error(self, InvalidRoad(""), function, (FREE23, ONE, LONGER))
            wrong = roads_wrong(*NO_PLACES)
            valid = (FREE23, ONE, (1, 1, 2, -1))
            check_arguments(self, function, valid, [webs_wrong(), roads_wrong(*NO_WORDS), [pair for pair in wrong if pair[0] != ()]])


class Lines(unittest.TestCase):
    def check_line(self, web, word, row):
        """The row is as the section tells."""
        length = length_of(web, word)
        for place in row:
            self.assertIs(is_place(web, place), True)
        for one, other in zip(row, row[1:]):
            self.assertTrue(are_neighbours(one, other))
        self.assertEqual(len(set(row)), len(row))
        short = [place for place in row if len(place) <= 120]
        for place in short:
            self.assertEqual(distance(web, place, moved(web, word, place)) if len(moved(web, word, place)) <= 120 else length, length)
        if len(row[0]) <= 120 and len(moved(web, word, row[0])) <= 120:
            self.assertEqual(way(web, row[0], moved(web, word, row[0]))[1], row[1])

    def long_words(self, web, seed):
        return [word for word in some_words(web, 12, 6, seed) if order_of(web, word) is None]

    def test_told_lines(self):
        many_long = 0
        for web in WEBS.values():
            for word in self.long_words(web, 7):
                many_long += 1
                for many in (1, 2, 3, 7, 100):
                    row = line(web, word, many)
                    self.assertEqual(len(row), many + 1)
                    self.check_line(web, word, row)
                    self.assertIs(is_line(web, word, many, row), True)
                    self.assertLessEqual(max(map(len, row)), 800)
        self.assertGreater(many_long, 80)

    def test_lines_of_the_farthest_words(self):
        around = (0,) + (1, 0) * 60
        row = line(LOOP, around, 100)
        self.assertEqual(row, tuple((0, 1) * many for many in range(101)))
        # The line is thirty ties away from the first place.
        tail = (0,) + (1, 1, -1, 1) * 14 + (1, 1, -1, 0)
        deep = any_plain(FREE23, joined(FREE23, tail, (0, 1, 1, -1, 1), back(FREE23, tail)))
        self.assertGreater(len(deep), 110)
        for word in (deep, any_plain(FREE23, contrary(FREE23, deep))):
            row = line(FREE23, word, 100)
            self.check_line(FREE23, word, row)
            self.assertIs(is_line(FREE23, word, 100, row), True)

    def test_other_rows_of_a_line(self):
        for web in (FREE23, LOOP, FLAT, TURNS, SHARED, DEEP, WEBS["double"]):
            for word in self.long_words(web, 8)[:5]:
                row = line(web, word, 40)
                for first in (0, 1, 5, 25):
                    for many in (1, 2, 10):
                        self.assertIs(is_line(web, word, many, row[first:first + many + 1]), True)
                        self.assertIs(is_line(web, word, many, row[first:first + many + 1][::-1]), False)
                        self.assertIs(is_line(web, contrary(web, word), many, row[first:first + many + 1][::-1]), True)
                        # Too many places, too few, the first one twice, one left out, one off the line.
                        part = row[first:first + many + 1]
                        check_judged(self, is_line, (web, word, many), [
                            row[first:first + many], row[first:first + many + 2], part[:1] + part[:-1], part[:-1] + row[first + many + 1:first + many + 2],
                            list(part), part[:-1] + part[-3:-2], part[:-1] + (None,),
                        ])
                for many in (2, 3, -2):
                    whole = power(web, word, many)
                    if len(whole) <= 121:
                        told = row if many > 0 else row[::-1]
                        self.assertIs(is_line(web, whole, 40, told), True)
                for at in (0, 3, 11):
                    behind = place_of(web, row[at] + (0,))
                    self.assertIs(on_line(web, word, behind), True)
                    if length_of(web, word) <= 20:
                        self.assertIn(moved(web, word, behind), row)

    def test_places_of_any_length(self):
        row = tuple((0, 1) * many for many in range(500, 511))
        self.assertIs(is_line(LOOP, (0, 1, 0), 10, row), True)
        self.assertIs(is_line(LOOP, (0, 1, 0), 10, row[::-1]), False)
        self.assertIs(is_line(LOOP, (0, -1, 0, -1, 1), 10, row[::-1]), True)
        self.assertIs(is_line(LOOP, (0, 1, 0), 10, row[:-1] + ((0, 1) * 508,)), False)
        self.assertIs(is_line(LOOP, (0, 1, 0), 10, row[:-1] + (row[-1][:-1] + (2,),)), False)

    def test_on_line(self):
        for web in (FREE23, FLAT, LOOP, TURNS, SHARED):
            known = places(web, 3)[:60]
            for word in self.long_words(web, 9)[:6]:
                for place in known:
                    self.assertIs(on_line(web, word, place), moved_by(web, word, place) == length_of(web, word))

    def test_places_off_the_line(self):
        self.assertEqual([on_line(FREE23, ONE, place) for place in ((), (1, 1), (1, 1, 1, -1), (0, 1), (1, 1, 2, -1))], [True, True, True, True, False])
        check_judged(self, is_line, (FREE23, ONE, 1), (((0, 1), (0, 1, 1, -1)), ((0, 1, 1, -1), (0, 1)), ((1, 1), (1, 1, 2, -1)), ((), ())) + JUDGED)
        check_judged(self, is_line, (FREE23, ONE, 2), (((), (1, 1), ()), ((), (1, 1)), ((), (1, 1), (1, 1, 1, -1), (1, 1, 1, -1, 1, 1)), 0))
        self.assertIs(is_line(FREE23, ONE, 1, ((), (1, 1))), True)
        self.assertIs(is_line(FREE23, ONE, 1, ((), (True, 1))), False)
        self.assertIs(is_line(FREE23, ONE, 1, ((), (1, True))), False)

    def test_wrong_arguments(self):
        words, many = roads_wrong(*NO_WORDS), numbers(0, 101, -1)
        check_arguments(self, line, (FREE23, ONE, 100), [webs_wrong(), words, many])
        check_arguments(self, line, (FREE23, ONE, 1), [webs_wrong(), words, many])
        check_arguments(self, is_line, (FREE23, ONE, 2, None), [webs_wrong(), words, many, []])
        for word in ((1,), (0,), THIRD, (1, 1, 0, -1, 1)):
            for function, rest in ((line, (5,)), (is_line, (5, None)), (on_line, ((),))):
                check_error(self, Refused(("round",)), function, (FREE23, word) + rest)
            check_error(self, InvalidNumber(0), line, (FREE23, word, 0))
            check_error(self, InvalidNumber(True), is_line, (FREE23, word, True, None))
            check_error(self, InvalidRoad(""), on_line, (FREE23, word, (0,)))
            check_error(self, InvalidRoad(""), on_line, (FREE23, word, LONGER))
        check_error(self, Refused(("round",)), line, (Web.lone(SIX), (3,), 1))


class Common(unittest.TestCase):
    def test_common_places(self):
        found = [0, 0]
        for web in WEBS.values():
            words = [word for word in some_words(web, 8, 4, 10) if order_of(web, word) is not None][:12]
            for one, other in itertools.product(words, repeat=2):
                place = common_place(web, one, other)
                whole = joined(web, one, other)
                round_product = powers_to_nothing(web, any_plain(web, whole)) is not None
                self.assertIs(place is not None, round_product)
                found[place is None] += 1
                if place is not None:
                    self.assertEqual((moved(web, one, place), moved(web, other, place)), (place, place))
                    self.assertIs(is_common_place(web, one, other, place), True)
                self.assertIs(is_common_place(web, one, other, None), False)
        self.assertGreater(min(found), 100)

    def test_lengths_of_products(self):
        for name, web in sorted(SMALL.items()):
            known = places(web, 3)[:80]
            words = [word for word in some_words(web, 6, 3, 11) if order_of(web, word) is not None and len(word) <= 5]
            for one, other in itertools.product(words, repeat=2):
                ones = [place for place in known if moved(web, one, place) == place]
                others = [place for place in known if moved(web, other, place) == place]
                whole = product(web, one, other)
                if common_place(web, one, other) is None and len(whole) <= 5:
                    apart = min(distance(web, place, goal) for place in ones for goal in others)
                    self.assertEqual(length_of(web, whole), 2 * apart, name)
                for place in known:
                    self.assertIs(is_common_place(web, one, other, place), place in ones and place in others)

    def test_judged_places(self):
        check_judged(self, is_common_place, (FREE23, THIRD, (0, 1, 2, -1, 0)), NO_PLACES + JUDGED[:3] + ((0,), [0, 1], (), (1, 1), None))
        self.assertIs(is_common_place(FREE23, THIRD, (0, 1, 2, -1, 0), (0, 1)), True)
        self.assertIs(is_common_place(LOOP, (1,), (0,), (0, 1) * 500), True)
        self.assertIs(is_common_place(LOOP, (1,), (0,), (0, 1) * 500 + (1, 1)), False)
        self.assertIs(is_common_place(FREE23, (0,), (0,), LONGER), True)
        self.assertIs(is_common_place(FREE23, (1,), (0,), LONGER), False)
        self.assertIs(is_common_place(FREE23, (1,), (1,), ()), True)

    def test_far_places(self):
        tail = (0,) + (1, 1, -1, 1) * 14 + (1, 1, -1, 0)
        far = turned(FREE23, (1,), tail)
        self.assertEqual((common_place(FREE23, far, far), common_place(FREE23, far, (1,))), (tail[:-1], None))
        self.assertEqual(common_place(FREE23, far, (0,)), tail[:-1])

    def test_wrong_arguments(self):
        words = roads_wrong(*NO_WORDS)
        check_arguments(self, common_place, (FREE23, THIRD, (1,)), [webs_wrong(), words, words])
        check_arguments(self, is_common_place, (FREE23, THIRD, (1,), None), [webs_wrong(), words, words, []])
        for function, rest in ((common_place, ()), (is_common_place, ((),))):
            check_error(self, Refused(("long", 0)), function, (FREE23, ONE, (1,)) + rest)
            check_error(self, Refused(("long", 1)), function, (FREE23, (1,), ONE) + rest)
            check_error(self, Refused(("long", 0)), function, (FREE23, ONE, ONE) + rest)
            check_error(self, InvalidRoad(""), function, (FREE23, ONE, (0, 1, 0)) + rest)
            check_error(self, InvalidRoad(""), function, (FREE23, (2,), ONE) + rest)


class NotTrue(unittest.TestCase):
    def test_what_is_not_true(self):
        self.assertEqual(length_of(FREE23, product(FREE23, (1,), THIRD)), 2)
        self.assertEqual((moved_by(FREE23, ONE, (1, 1, 2, -1)), length_of(FREE23, ONE)), (4, 2))
        one, other = (0, 1, 0), (1, 1, 0)
        row = line(LOOP, one, 20)
        self.assertIs(is_line(LOOP, other, 20, row), True)
        self.assertFalse(any(are_equal(LOOP, power(LOOP, one, many), other) for many in range(-40, 41)))
        self.assertEqual((moved(FREE23, THIRD, (0, 1)), THIRD[:-1] == (0, 1)), ((0, 1), False))
        tie = Web((TWO, THREE), ((0, 1, IDLE), (0, 1, IDLE)))
        self.assertEqual((order_of(tie, (0, 1, 0, -2, 0)), length_of(tie, (0, 1, 0, -2, 0))), (None, 2))
        self.assertEqual((order_of(LINE, (0, 1, 0)), order_of(LINE, (0,)), length_of(LINE, line_road(LINE, 0))), (None, 1, 0))


if __name__ == "__main__":
    unittest.main()
