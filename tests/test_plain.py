"""Stage 5: plain roads, and words as a whole, [0.14], [0.15] and [5.1] to [5.5]."""

import itertools
import math
import unittest

from treerooms.base.rooms import Room
from treerooms.errors import InvalidNumber, InvalidRoad, TooMany
from treerooms.webs import plain as module
from treerooms.webs.plain import (
    are_equal, contrary, is_nothing, is_plain, plain, plain_words, power, product,
)
from treerooms.webs.webs import Web

from tests.support import (
    DOWN, FLAT, FREE23, IDLE, JUDGED, LINE, LOOP, NO_WEBS, SIX, SMALL, STAR, THREE, TURNS, TWO, WEBS, WHOLE,
    Reading, chances, check_arguments, check_error, check_judged, line_road, numbers, roads_wrong, webs_wrong,
)

WORD = (1, 1, 2, -1, 0)
# Values that are near to roads from 0, and those that are roads but no words.
NO_ROADS = (
    list(WORD), (1, 1), (2,), (-1,), (True,), (False,), (0, 1, True, -1, 0), (0, -1, 0), (0, 1, 3, -1, 0),
    (0, True, 1, -1, 0), (0, 1, 1, 1, 0), (0, 1, 1, -1, 2), line_road(FREE23, 62), line_road(FREE23, 61), (0, 1, [1], -1, 0),
    (0, 1, 10 ** 60, -1, 0), (WORD,), (0, None, 0), (0, 0, 0),
)
NO_WORDS = NO_ROADS + ((1, 1, 2), (0, 1, 0))


def as_table(word):
    """A word of FREE23 as four integers, up to their common sign: a faithful picture."""
    parts = {0: ((1, 0, 0, 1), (0, -1, 1, 0)), 1: ((1, 0, 0, 1), (0, -1, 1, 1), (-1, -1, 1, 0))}
    a, b, c, d = 1, 0, 0, 1
    point = 0
    for spot, entry in enumerate(word):
        if spot % 2:
            point = 1 - point
        else:
            e, f, g, h = parts[point][entry]
            a, b, c, d = a * e + b * g, a * f + b * h, c * e + d * g, c * f + d * h
    return max((a, b, c, d), (-a, -b, -c, -d))


def as_shift(word):
    """A word of FLAT as x to sign x + shift: a faithful picture."""
    sign, shift, point = 1, 0, 0
    for spot, entry in enumerate(word):
        if spot % 2:
            point = 1 - point
        elif entry:
            sign, shift = -sign, (1 if point else 0) - shift
    return sign, shift


def as_count(word):
    """A word of LOOP as a sum of stays and a sum of ties: a faithful picture."""
    return sum(word[::2]) % 2, sum(word[1::2])


PICTURES = ((FREE23, as_table), (FLAT, as_shift), (LOOP, as_count))


def some_words(web, many, ties, seed):
    """Words of the web, with turns."""
    chance, reading = chances(seed), Reading(web)
    return [reading.some_word(chance, chance.randrange(ties + 1)) for _ in range(many)]


class Plain(unittest.TestCase):
    def test_constants(self):
        self.assertEqual((module.MOST_POWER, module.MOST_TIES, module.MOST_LISTED), (40, 4, 2000))

    def test_plain_is_equal_and_plain(self):
        for web in WEBS.values():
            reading, chance = Reading(web), chances(1)
            for _ in range(40):
                point = chance.randrange(web.points)
                road = reading.some_road(chance, point, chance.randrange(7))
                told = plain(web, point, road)
                self.assertIs(reading.is_road(point, told) and reading.is_plain(point, told), True)
                self.assertEqual(reading.end(point, told), reading.end(point, road))
                self.assertIs(is_plain(web, point, told), True)
                self.assertEqual(plain(web, point, told), told)
                if math.prod(len(web.lot(tie)) for tie in told[1::2]) <= 300:
                    short = reading.shortest(road)
                    self.assertEqual([one for one in short if reading.is_plain(point, one)], [told])

    def test_is_plain(self):
        for name, web in sorted(SMALL.items()):
            reading = Reading(web)
            for point in range(web.points):
                for ties in range(4):
                    for road in reading.all_roads(point, ties)[:1500]:
                        wanted = reading.is_plain(point, road)
                        self.assertIs(is_plain(web, point, road), wanted, (name, road))

    def test_is_plain_takes_roads_of_any_length(self):
        self.assertIs(is_plain(LOOP, 0, (0,) + (1, 0) * 3000), True)
        self.assertIs(is_plain(LOOP, 0, (0,) + (1, 0) * 2999 + (1, 1)), True)
        self.assertIs(is_plain(LOOP, 0, (0,) + (1, 0) * 2999 + (-1, 0)), False)
        self.assertIs(is_plain(LOOP, 0, (1,) + (1, 0) * 3000), False)
        self.assertIs(is_plain(FREE23, 0, (1,) + (1, 2, -1, 1) * 600), True)
        self.assertIs(is_plain(FREE23, 0, line_road(FREE23, 62)), False)
        check_judged(self, is_plain, (FREE23, 0), NO_ROADS + JUDGED + ((), (0, 1, 0, -1, 0)))
        self.assertIs(is_plain(FREE23, 0, (0, 1, 0)), True)
        self.assertIs(is_plain(FREE23, 1, (0, 1, 0)), False)
        check_judged(self, is_plain, (FREE23, 1), (WORD, (3,), (True,), (2, -1, 2)))

    def test_what_is_not_plain(self):
        self.assertEqual([is_plain(LOOP, 0, (1, 1, 0)), is_plain(LOOP, 0, (0, 1, 1))], [False, True])
        self.assertEqual([is_plain(TURNS, 0, (0, 1, 1, -1, 0)), is_plain(TURNS, 0, (0, 1, 0, 1, 2))], [False, True])
        self.assertEqual([is_plain(DOWN, 0, (0, 1, 3, -1, 0)), is_plain(DOWN, 0, (0, 1, 1, -1, 1))], [False, True])
        self.assertEqual([is_plain(DOWN, 1, (1, -1, 1)), is_plain(DOWN, 1, (2, -1, 1))], [True, False])

    def test_sixty_ties(self):
        self.assertEqual(plain(FREE23, 0, line_road(FREE23, 60)), (0,))
        self.assertEqual(plain(LOOP, 0, (1,) + (1, 1) * 60), (0,) + (1, 0) * 59 + (1, 1))
        for ties in (61, 62):
            check_error(self, InvalidRoad(""), plain, (FREE23, 0, line_road(FREE23, ties)))

    def test_wrong_arguments(self):
        road = (1, 1, 0, -1, 1, 1, 2)
        wrong = roads_wrong(*NO_ROADS)
        check_arguments(self, plain, (FREE23, 0, road), [webs_wrong(), numbers(2, -1), wrong])
        for value in NO_WEBS:
            check_error(self, webs_wrong()[0][1], is_plain, (value, 0, (0,)))
            check_error(self, webs_wrong()[0][1], is_plain, (value, None, None))
        for value, wanted in numbers(2, -1):
            check_error(self, wanted, is_plain, (FREE23, value, (0,)))


class Words(unittest.TestCase):
    def test_pictures_of_products(self):
        for web, picture in PICTURES:
            words = some_words(web, 40, 12, 5)
            for one, other in itertools.product(words, repeat=2):
                same = picture(one) == picture(other)
                self.assertIs(are_equal(web, one, other), same)
                room = web.rooms[0]
                told = product(web, one, other)
                put = one[:-1] + (room.product(one[-1], other[0]),) + other[1:]
                self.assertEqual(picture(told), picture(put))
                self.assertIs(is_plain(web, 0, told), True)
                self.assertIs(is_nothing(web, put), told == (0,)) if len(put) < 121 else None

    def test_pictures_of_powers_and_contraries(self):
        for web, picture in PICTURES:
            for word in some_words(web, 25, 8, 6) + [(0,)]:
                back = contrary(web, word)
                self.assertIs(is_plain(web, 0, back), True)
                self.assertEqual(product(web, word, back), (0,))
                self.assertEqual(product(web, back, word), (0,))
                for many in (-40, -39, -7, -2, -1, 0, 1, 2, 3, 11, 39, 40):
                    told = power(web, word, many)
                    self.assertIs(is_plain(web, 0, told), True)
                    step = word if many >= 0 else back
                    whole = (0,)
                    for _ in range(abs(many)):
                        whole = whole[:-1] + (web.rooms[0].product(whole[-1], step[0]),) + step[1:]
                    self.assertEqual(picture(told), picture(whole))

    def test_words_of_all_webs(self):
        for web in WEBS.values():
            reading = Reading(web)
            words = some_words(web, 12, 4, 7)
            for word in words:
                self.assertEqual(product(web, word, (0,)), plain(web, 0, word))
                self.assertEqual(product(web, (0,), word), plain(web, 0, word))
                self.assertEqual(product(web, word, contrary(web, word)), (0,))
                self.assertEqual(contrary(web, contrary(web, word)), plain(web, 0, word))
                self.assertEqual((power(web, word, 1), power(web, word, 0)), (plain(web, 0, word), (0,)))
                self.assertEqual(power(web, word, -1), contrary(web, word))
                self.assertIs(is_nothing(web, word), plain(web, 0, word) == (0,))
            for one, other in itertools.product(words, repeat=2):
                self.assertIs(are_equal(web, one, other), plain(web, 0, one) == plain(web, 0, other))
                if math.prod(len(web.lot(tie)) for tie in one[1::2] + other[1::2]) <= 300:
                    self.assertIs(are_equal(web, one, other), bool(reading.shortest(one) & reading.shortest(other)))
            for one, other, last in itertools.product(words[:6], repeat=3):
                ahead = product(web, product(web, one, other), last)
                self.assertEqual(ahead, product(web, one, product(web, other, last)))

    def test_powers_add_up(self):
        for web in WEBS.values():
            for word in some_words(web, 4, 3, 8):
                for one, other in ((2, 3), (-2, 5), (4, -4), (7, -9)):
                    told = product(web, power(web, word, one), power(web, word, other))
                    self.assertEqual(told, power(web, word, one + other))

    def test_long_results(self):
        long = (1,) + (1, 1, -1, 1) * 30
        for many in (40, -40):
            told = power(FREE23, long, many)
            # At each of 39 joints the stays 1 make 0, and two ties are left out.
            self.assertEqual(len(told) // 2, 2400 - 2 * 39)
            self.assertIs(is_plain(FREE23, 0, told), True)
        around = (0,) + (1, 0) * 60
        self.assertEqual(power(LOOP, around, 40), (0,) + (1, 0) * 2400)
        self.assertEqual(power(LOOP, around, -40), (0,) + (-1, 0) * 2400)
        self.assertEqual(product(LOOP, around, around), (0,) + (1, 0) * 120)
        self.assertEqual(contrary(LOOP, around), (0,) + (-1, 0) * 60)
        for function in (contrary, is_nothing):
            check_error(self, InvalidRoad(""), function, (LOOP, (0,) + (1, 0) * 61))

    def test_is_nothing(self):
        self.assertIs(is_nothing(FREE23, (1, 1, 0, -1, 1)), True)
        self.assertIs(is_nothing(FREE23, (0,)), True)
        self.assertIs(is_nothing(FREE23, (1,)), False)
        self.assertIs(is_nothing(FREE23, (0, 1, 1, -1, 0)), False)
        self.assertIs(is_nothing(LOOP, (0, 1, 1, -1, 1)), True)
        self.assertIs(is_nothing(LOOP, (0, 1, 1, -1, 0)), False)

    def test_wrong_arguments(self):
        wrong = roads_wrong(*NO_WORDS)
        for function in (product, are_equal):
            check_arguments(self, function, (FREE23, WORD, (1,)), [webs_wrong(), wrong, wrong])
        for function in (contrary, is_nothing):
            check_arguments(self, function, (FREE23, WORD), [webs_wrong(), wrong])
        check_arguments(self, power, (FREE23, WORD, 2), [webs_wrong(), wrong, numbers(41, -41, 100)])
        check_arguments(self, power, (FREE23, WORD, 40), [webs_wrong(), wrong, numbers(41)])
        check_arguments(self, power, (FREE23, (0,), -40), [webs_wrong(), wrong, numbers(-41)])
        check_error(self, InvalidRoad(""), product, (FREE23, (0, 1, 0), (0, -1, 0)))

    def test_what_is_not_true(self):
        self.assertIs(are_equal(FREE23, (1, 1, 0, -1, 1), (0,)), True)
        one = (0, 1, 1, -1, 1)
        self.assertIs(is_plain(FREE23, 0, one), True)
        self.assertNotEqual(product(FREE23, one, contrary(FREE23, one)), one + contrary(FREE23, one)[1:])
        self.assertIs(is_plain(FREE23, 0, (0, 1, 0, -1, 0)), False)


class PlainWords(unittest.TestCase):
    def test_all_plain_words(self):
        for name, web in sorted(WEBS.items()):
            reading = Reading(web)
            for ties in range(4):
                if len(reading.sides) ** ties * max(room.size for room in web.rooms) ** (ties + 1) > 60000:
                    continue
                wanted = [
                    road for road in reading.all_roads(0, ties) if reading.end(0, road) == 0 and reading.is_plain(0, road)
                ]
                if len(wanted) <= 2000:
                    self.assertEqual(list(plain_words(web, ties)), sorted(wanted), (name, ties))
                else:
                    check_error(self, TooMany(2000), plain_words, (web, ties))

    def test_words_with_four_ties(self):
        for web, many in ((FREE23, 16), (FLAT, 4), (LOOP, 4), (LINE, 2), (STAR, 52), (Web.lone(SIX), 0), (DOWN, 0), (TURNS, 6)):
            words = list(plain_words(web, 4))
            reading = Reading(web)
            everything = reading.all_roads(0, 4)
            wanted = [road for road in everything if reading.end(0, road) == 0 and reading.is_plain(0, road)]
            self.assertEqual(words, sorted(wanted))
            self.assertEqual(len(words), many, str(web))
        self.assertEqual(list(plain_words(Web.lone(WHOLE), 0)), [(member,) for member in range(24)])

    def test_whole_lists_of_webs_with_loops(self):
        self.assertEqual([list(plain_words(LOOP, ties)) for ties in range(5)], [
            [(0,), (1,)],
            [(0, -1, 0), (0, -1, 1), (0, 1, 0), (0, 1, 1)],
            [(0, -1, 0, -1, 0), (0, -1, 0, -1, 1), (0, 1, 0, 1, 0), (0, 1, 0, 1, 1)],
            [(0, -1, 0, -1, 0, -1, last) for last in (0, 1)] + [(0, 1, 0, 1, 0, 1, last) for last in (0, 1)],
            [(0, -1, 0, -1, 0, -1, 0, -1, last) for last in (0, 1)] + [(0, 1, 0, 1, 0, 1, 0, 1, last) for last in (0, 1)],
        ])
        tailed = Web((TWO, TWO), ((0, 0, ((0, 0), (1, 1))), (1, 0, IDLE)))
        numbers_of_words = []
        for web in (LOOP, TURNS, LINE, Web((TWO,), ((0, 0, IDLE),)), tailed):
            reading = Reading(web)
            for ties in range(5):
                wanted = [
                    road for road in reading.all_roads(0, ties) if reading.end(0, road) == 0 and reading.is_plain(0, road)
                ]
                self.assertEqual(list(plain_words(web, ties)), sorted(wanted))
                numbers_of_words.append(len(wanted))
        self.assertEqual(numbers_of_words[15:20], [2, 8, 24, 72, 216])

    def test_they_are_a_generator(self):
        words = plain_words(FREE23, 2)
        self.assertIs(iter(words), words)
        self.assertEqual((next(words), next(words), next(words)), ((0, 1, 1, -1, 0), (0, 1, 1, -1, 1), (0, 1, 2, -1, 0)))
        self.assertEqual(len(list(words)), 5)

    def test_errors_come_with_the_first_word(self):
        for arguments, wanted in (((None, 9), "web"), ((FREE23, 5), InvalidNumber), ((FREE23, True), InvalidNumber)):
            words = plain_words(*arguments)
            with self.assertRaises(Exception) as caught:
                next(words)
            self.assertIs(type(caught.exception), type(webs_wrong()[0][1]) if wanted == "web" else wanted)
        wild = Web((WHOLE,), ((0, 0, IDLE),) * 6)
        words = plain_words(wild, 4)
        with self.assertRaises(TooMany) as caught:
            next(words)
        self.assertEqual(caught.exception.most, 2000)

    def test_more_than_two_thousand(self):
        wild = Web((WHOLE,), ((0, 0, IDLE),) * 6)
        self.assertEqual(len(list(plain_words(wild, 0))), 24)
        for ties in (1, 2, 3, 4):
            check_error(self, TooMany(2000), plain_words, (wild, ties))
        check_error(self, InvalidNumber(5), plain_words, (wild, 5))
        # A room of n members with k idle loops has 2 k n n plain words with one tie.
        twenty = Room(5, ((1, 2, 3, 4, 0), (0, 2, 4, 1, 3)))
        self.assertEqual(len(list(plain_words(Web((twenty,), ((0, 0, IDLE),) * 2), 1))), 1600)
        check_error(self, TooMany(2000), plain_words, (Web((twenty,), ((0, 0, IDLE),) * 3), 1))

    def test_just_two_thousand(self):
        # One tie and back over it: 10 * (size - 1) * 10 words, and so on.
        ten = Room(5, ((1, 2, 3, 4, 0), (0, 4, 3, 2, 1)))
        ties = ((0, 1, IDLE), (0, 1, IDLE), (0, 2, IDLE), (0, 3, IDLE))
        # To and fro over one tie leaves out the stay 0; over the two parallel ones it need not.
        for sizes, many in (((6, 1, 1), 2200), ((5, 2, 1), 1900), ((5, 3, 1), 2000), ((5, 4, 1), 2100)):
            rooms = (ten,) + tuple(Room.round(size) for size in sizes)
            web = Web(rooms, ties)
            wanted = 100 * (2 * (sizes[0] - 1) + 2 * sizes[0] + sizes[1] - 1 + sizes[2] - 1)
            self.assertEqual(wanted, many)
            if many <= 2000:
                self.assertEqual(len(list(plain_words(web, 2))), many)
            else:
                check_error(self, TooMany(2000), plain_words, (web, 2))

    def test_wrong_arguments(self):
        check_arguments(self, plain_words, (FREE23, 4), [webs_wrong(), numbers(5, -1, 6)])
        check_arguments(self, plain_words, (Web.lone(THREE), 0), [webs_wrong(), numbers(5, -1)])
        self.assertEqual(list(plain_words(Web.lone(TWO), 4)), [])


if __name__ == "__main__":
    unittest.main()
