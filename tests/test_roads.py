"""Stage 4: roads, exchanges and pinches, [0.12], [0.13] and [4.1] to [4.6]."""

import itertools
import math
import unittest

from treerooms.errors import InvalidNumber, InvalidRoad, Refused
from treerooms.webs import roads
from treerooms.webs.roads import (
    exchange_row, exchanged, gone_back, is_road, is_shortened, is_word, joined, least_ties, pinches, road_end,
    shortened, turned_back,
)
from treerooms.webs.webs import Web

from tests.support import (
    DOWN, FLAT, FREE23, JUDGED, LINE, LOOP, NO_WEBS, SHARED, SIX, SMALL, TURNS, WEBS,
    Reading, chances, check_arguments, check_error, check_judged, line_road, numbers, roads_wrong, webs_wrong,
)

# A road with a pinch at 1 and none at 2, and values that are near to roads of FREE23 from 0.
ROAD = (1, 1, 0, -1, 1, 1, 2)
NEAR = (
    list(ROAD), (1, 1), (1, 1, 0, -1), (2,), (-1,), (True,), (False,), (0, True, 0), (0, 1, True), (False, 1, 0), (0, -1, 0), (0, 0, 0),
    (0, 2, 0), (0, -2, 0), (0, 1, 3), (0, 1, -1), (0, 1, 0, 1, 0), (2, 1, 0), (0, 1, 2, -1, 2), (0, "1", 0), ("0", 1, 0), (0, 1, None),
    (0, (1,), 0), (0, [1], 0), ([0], 1, 0), (None, 1, 0), (0, 10 ** 60, 0), (10 ** 60, 1, 0), (0, 1, 10 ** 60), ((0, 1, 0),), (0, FREE23, 0),
    line_road(FREE23, 61), line_road(FREE23, 62), (0, {}, 0),
)


def samples(many, ties, seed):
    """Some webs, points and roads from them, with turns."""
    chance = chances(seed)
    found = []
    for name, web in sorted(WEBS.items()):
        reading = Reading(web)
        for _ in range(many):
            point = chance.randrange(web.points)
            found.append((web, reading, point, reading.some_road(chance, point, chance.randrange(ties + 1))))
    return found


class Roads(unittest.TestCase):
    def test_constant(self):
        self.assertEqual(roads.MAX_TIES, 60)

    def test_all_rows_of_few_numbers(self):
        for web in (FREE23, LOOP, TURNS, DOWN, LINE, Web.lone(SIX)):
            reading = Reading(web)
            for many in range(6):
                for row in itertools.product(range(-1, 3), repeat=many):
                    for point in range(web.points):
                        wanted = reading.is_road(point, row)
                        self.assertIs(is_road(web, point, row), wanted, (str(web), point, row))
                    wanted = reading.is_road(0, row) and reading.end(0, row) == 0
                    self.assertIs(is_word(web, row), wanted, (str(web), row))

    def test_roads_are_known_and_their_ends(self):
        for web, reading, point, road in samples(20, 8, 1):
            self.assertIs(is_road(web, point, road), True)
            self.assertEqual(road_end(web, point, road), reading.end(point, road))
            self.assertIs(is_word(web, road), reading.is_road(0, road) and reading.end(0, road) == 0)
            self.assertIs(is_road(web, point, road[:-1] + (web.rooms[reading.end(point, road)].size,)), False)

    def test_sixty_ties(self):
        self.assertIs(is_road(FREE23, 0, line_road(FREE23, 60)), True)
        self.assertIs(is_word(FREE23, line_road(FREE23, 60)), True)
        self.assertEqual(road_end(FREE23, 0, line_road(FREE23, 59)), 1)
        around = (0,) + (1, 1) * 60
        self.assertIs(is_word(LOOP, around), True)
        self.assertIs(is_word(LOOP, around + (1, 0)), False)
        self.assertIs(is_road(LOOP, 0, around + (1, 0)), False)
        for ties in (61, 62, 2400):
            self.assertIs(is_road(FREE23, 0, line_road(FREE23, ties)), False)
            self.assertIs(is_word(FREE23, line_road(FREE23, ties)), False)
            check_error(self, InvalidRoad(""), road_end, (FREE23, 0, line_road(FREE23, ties)))

    def test_judges_refuse(self):
        check_judged(self, is_road, (FREE23, 0), NEAR + JUDGED + ((),))
        check_judged(self, is_word, (FREE23,), NEAR + JUDGED + ((), (0, 1, 0), (0, 1, 0, -1, 0, 1, 0)))
        check_judged(self, is_road, (FREE23, 1), ((0, 1, 0), (3,), (True,), (0, 1, 0, -1, 0), (2, -1, 2)))
        judged = [(FREE23, 0, ROAD), (FREE23, ROAD)]
        for value in NO_WEBS:
            for function, arguments in zip((is_road, is_word), judged):
                check_error(self, webs_wrong()[0][1], function, (value,) + arguments[1:])
        for value, wanted in numbers(2, -1):
            check_error(self, wanted, is_road, (FREE23, value, ROAD))
            check_error(self, wanted, is_road, (FREE23, value, None))

    def test_joined(self):
        chance = chances(3)
        for web, reading, point, road in samples(12, 6, 2):
            end = reading.end(point, road)
            other = reading.some_road(chance, end, 5)
            middle = reading.tables[end][road[-1]][other[0]]
            self.assertEqual(joined(web, point, road, other), road[:-1] + (middle,) + other[1:])
        self.assertEqual(joined(SHARED, 1, (1,), (2,)), (3,))
        long = line_road(FREE23, 60)
        self.assertEqual(len(joined(FREE23, 0, long, long)) // 2, 120)
        check_error(self, InvalidRoad(""), joined, (FREE23, 0, (0, 1, 0), (0, 1, 0)))
        check_error(self, InvalidRoad(""), joined, (FREE23, 0, (0, 1, 0), (0, -1, 0) + (1, 0, -1, 0) * 30))

    def test_gone_back(self):
        for web, reading, point, road in samples(12, 6, 4):
            stops = reading.stops(point, road)
            back = []
            for at in range(len(stops) - 1, -1, -1):
                back.append(reading.contraries[stops[at]][road[2 * at]])
                if at:
                    back.append(-road[2 * at - 1])
            self.assertEqual(gone_back(web, point, road), tuple(back))
            self.assertEqual(gone_back(web, stops[-1], tuple(back)), road)
            whole = joined(web, point, road, tuple(back))
            self.assertEqual(least_ties(web, point, whole), 0)
            self.assertIs(is_shortened(web, point, whole, (0,)), True)

    def test_wrong_arguments(self):
        points, wrong = numbers(2, -1), roads_wrong(*NEAR)
        for function in (road_end, gone_back, pinches, shortened, least_ties):
            check_arguments(self, function, (FREE23, 0, ROAD), [webs_wrong(), points, wrong])
        others = roads_wrong((0, 1, 0), (3,), (0, -1, 2), (0, -1), [0, -1, 0], (0, -1, 0) + (1, 0, -1, 0) * 30)
        check_arguments(self, joined, (FREE23, 0, ROAD, (2, -1, 1)), [webs_wrong(), points, wrong, others])
        places = numbers(0, 4, -1, 5)
        check_arguments(self, exchanged, (FREE23, 0, ROAD, 3, 0), [webs_wrong(), points, wrong, places, numbers(1, -1, 3, 2)])
        check_arguments(self, turned_back, (FREE23, 0, ROAD, 1), [webs_wrong(), points, wrong, numbers(0, 3, -1, 4)])
        plainest = (1, 1, 2)
        check_arguments(self, exchange_row, (FREE23, 0, plainest, plainest), [webs_wrong(), points, wrong, wrong])
        check_arguments(self, is_shortened, (FREE23, 0, ROAD, None), [webs_wrong(), points, wrong, []])


class Exchanges(unittest.TestCase):
    def test_exchanged(self):
        for web, reading, point, road in samples(12, 6, 5):
            for place in range(1, len(road) // 2 + 1):
                lot = reading.sides[road[2 * place - 1]][2]
                for member in lot:
                    self.assertEqual(exchanged(web, point, road, place, member), reading.exchanged(road, place, member))
                size = web.rooms[web.begin(road[2 * place - 1])].size
                for member in range(-1, size + 1):
                    if member not in lot:
                        check_error(self, InvalidNumber(member), exchanged, (web, point, road, place, member))

    def test_places_and_members(self):
        for place in (0, 1, -1, True, None):
            check_error(self, InvalidNumber(place), exchanged, (FREE23, 0, (1,), place, 0))
        road = (1, 1, 3, -1, 0)
        self.assertEqual(exchanged(DOWN, 0, road, 1, 1), (0, 1, 1, -1, 0))
        self.assertEqual(exchanged(DOWN, 0, road, 2, 2), (1, 1, 1, -1, 1))
        check_error(self, InvalidNumber(1), exchanged, (DOWN, 0, road, 2, 1))
        check_error(self, InvalidNumber(True), exchanged, (DOWN, 0, road, 1, True))
        check_error(self, InvalidNumber(False), exchanged, (DOWN, 0, road, 1, False))
        check_error(self, InvalidNumber(3), exchanged, (DOWN, 0, road, 3, 9))

    def test_how_many_roads_exchanges_lead_to(self):
        for web, reading, point, road in samples(6, 3, 6):
            sizes = math.prod(len(web.lot(tie)) for tie in road[1::2])
            found, waiting = {road}, [road]
            while waiting:
                one = waiting.pop()
                for place, tie in enumerate(one[1::2], start=1):
                    for member in web.lot(tie):
                        more = exchanged(web, point, one, place, member)
                        if more not in found:
                            found.add(more)
                            waiting.append(more)
            self.assertEqual(len(found), sizes)


class Pinches(unittest.TestCase):
    def test_pinches_and_turning_back(self):
        for web, reading, point, road in samples(25, 7, 7):
            wanted = reading.pinches(road)
            self.assertEqual(pinches(web, point, road), wanted)
            for place in range(1, len(road) // 2):
                if place in wanted:
                    back = turned_back(web, point, road, place)
                    self.assertEqual(back, reading.turned_back(road, place))
                    self.assertEqual(len(back), len(road) - 4)
                    self.assertEqual(road_end(web, point, back), road_end(web, point, road))
                else:
                    check_error(self, Refused(("pinch",)), turned_back, (web, point, road, place))

    def test_where_there_is_a_pinch(self):
        road = (1, 1, 2, -1, 0, 1, 0, -1, 1)
        self.assertEqual(pinches(DOWN, 0, road), (1, 2, 3))
        self.assertEqual(pinches(DOWN, 0, (1, 1, 1, -1, 0)), ())
        self.assertEqual(turned_back(DOWN, 0, road, 1), (0, 1, 0, -1, 1))
        self.assertEqual(turned_back(DOWN, 0, road, 2), (1, 1, 2, -1, 1))
        self.assertEqual((pinches(LOOP, 0, (0, 1, 1, 1, 0)), pinches(LOOP, 0, (0, -1, 1, 1, 0))), ((), (1,)))
        self.assertEqual(turned_back(TURNS, 0, (0, 1, 1, -1, 0), 1), (2,))
        for place in (0, 1, True):
            check_error(self, InvalidNumber(place), turned_back, (FREE23, 0, (0, 1, 0), place))
            check_error(self, InvalidNumber(place), turned_back, (FREE23, 0, (0,), place))

    def test_no_pinch_is_told_behind_all_else(self):
        road = (0, 1, 1, -1, 0)
        check_error(self, Refused(("pinch",)), turned_back, (FREE23, 0, road, 1))
        check_error(self, InvalidNumber(2), turned_back, (FREE23, 0, road, 2))
        check_error(self, InvalidNumber(2), turned_back, (FREE23, 2, road, 1))
        pinched = (0, 1, 0, -1, 0)
        check_error(self, Refused(("pinch",)), exchange_row, (FREE23, 0, pinched, (0,)))
        check_error(self, Refused(("pinch",)), exchange_row, (FREE23, 0, (0,), pinched))
        check_error(self, Refused(("pinch",)), exchange_row, (FREE23, 0, pinched, pinched))
        for value in NEAR:
            check_error(self, InvalidRoad(""), exchange_row, (FREE23, 0, pinched, value))


class Shortened(unittest.TestCase):
    def test_shortened(self):
        for web, reading, point, road in samples(25, 7, 8):
            short = shortened(web, point, road)
            self.assertIs(reading.is_road(point, short), True)
            self.assertEqual(reading.pinches(short), ())
            self.assertIs(is_shortened(web, point, road, short), True)
            self.assertEqual(least_ties(web, point, road), len(short) // 2)
            self.assertEqual(reading.end(point, road), reading.end(point, short))
            if math.prod(len(web.lot(tie)) for tie in short[1::2]) <= 300:
                self.assertIn(short, reading.shortest(road))

    def test_the_judge_takes_all_and_nothing_else(self):
        for name, web in sorted(SMALL.items()):
            reading = Reading(web)
            chance = chances(9)
            for point in range(web.points):
                everything = [road for ties in range(3) for road in reading.all_roads(point, ties)][:400]
                for _ in range(6):
                    road = reading.some_road(chance, point, 4)
                    short = reading.shortest(road)
                    for value in everything:
                        self.assertIs(is_shortened(web, point, road, value), value in short, (name, road, value))
                    for value in short:
                        self.assertIs(is_shortened(web, point, road, value), True)

    def test_the_judge_refuses(self):
        check_judged(self, is_shortened, (FREE23, 0, ROAD), NEAR + JUDGED + ((), ROAD, (0, 1, 1), (1,), (0, 1, 2, -1, 0)))
        check_judged(self, is_shortened, (FREE23, 0, (1,)), ((True,), (0,), (1, 1, 0, -1, 0), (0, 1, 0, -1, 1), line_road(FREE23, 62)))
        self.assertIs(is_shortened(FREE23, 0, ROAD, (0, 1, 2)), True)

    def test_long_roads(self):
        road = line_road(FREE23, 60)
        self.assertEqual((shortened(FREE23, 0, road), least_ties(FREE23, 0, road)), ((0,), 0))
        self.assertEqual(pinches(FREE23, 0, road), tuple(range(1, 60)))
        around = (1,) + (1, 1) * 60
        self.assertEqual(least_ties(LOOP, 0, around), 60)
        self.assertIs(is_shortened(LOOP, 0, around, (1,) + (1, 0) * 60), True)
        self.assertIs(is_shortened(LOOP, 0, around, (0,) + (1, 0) * 60), False)
        self.assertIs(is_shortened(LOOP, 0, around, (1,) + (1, 0) * 61), False)
        self.assertIs(is_shortened(LOOP, 0, (0,), (0,) + (1, 0) * 60 + (-1, 0) * 60), False)

    def test_equal_roads_without_a_pinch(self):
        for web, reading, point, road in samples(10, 5, 10):
            if math.prod(len(web.lot(tie)) for tie in road[1::2]) > 300:
                continue
            for short in sorted(reading.shortest(road))[:20]:
                self.assertEqual(least_ties(web, point, short), least_ties(web, point, road))
                self.assertEqual(len(short) // 2, least_ties(web, point, road))


class ExchangeRow(unittest.TestCase):
    def lead(self, reading, road, row):
        for place, member in enumerate(row, start=1):
            road = reading.exchanged(road, place, member)
        return road

    def test_rows_of_equal_roads(self):
        for web, reading, point, road in samples(12, 5, 11):
            short = shortened(web, point, road)
            if math.prod(len(web.lot(tie)) for tie in short[1::2]) > 300:
                continue
            for other in sorted(reading.by_exchanges(short))[:30]:
                row = exchange_row(web, point, short, other)
                self.assertEqual(len(row), len(short) // 2)
                for member, tie in zip(row, short[1::2]):
                    self.assertIn(member, web.lot(tie))
                self.assertEqual(self.lead(reading, short, row), other)
                back = exchange_row(web, point, other, short)
                self.assertEqual(self.lead(reading, other, back), short)

    def test_none_for_unequal_roads(self):
        for name, web in sorted(SMALL.items()):
            reading = Reading(web)
            for point in range(web.points):
                everything = [
                    road for ties in range(3) for road in reading.all_roads(point, ties) if not reading.pinches(road)
                ][:60]
                for one, other in itertools.product(everything, repeat=2):
                    row = exchange_row(web, point, one, other)
                    if other in reading.by_exchanges(one):
                        self.assertEqual(self.lead(reading, one, row), other)
                    else:
                        self.assertIsNone(row, (name, one, other))

    def test_edges(self):
        self.assertEqual(exchange_row(FREE23, 0, (1,), (1,)), ())
        self.assertIsNone(exchange_row(FREE23, 0, (1,), (0,)))
        self.assertIsNone(exchange_row(FREE23, 0, (1,), (1, 1, 0)))
        self.assertIsNone(exchange_row(LOOP, 0, (1, 1, 0), (1, -1, 0)))
        self.assertEqual(exchange_row(TURNS, 0, (1, 1, 0), (0, 1, 2)), (1,))
        self.assertIsNone(exchange_row(TURNS, 0, (1, 1, 0), (0, 1, 1)))

    def test_what_is_not_true(self):
        self.assertNotIn((0,), Reading(FREE23).by_exchanges((1, 1, 0, -1, 1)))
        self.assertIs(is_shortened(FREE23, 0, (1, 1, 0, -1, 1), (0,)), True)
        self.assertEqual(pinches(LOOP, 0, (0, 1, 0, 1, 0)), ())
        self.assertIsNone(exchange_row(FLAT, 0, (0, 1, 1), (0, 1, 0)))


if __name__ == "__main__":
    unittest.main()
