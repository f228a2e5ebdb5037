"""Stage 6: the tree, [0.16], [0.22] and [6.1] to [6.6]."""

import itertools
import unittest

from treerooms.base.rooms import Room, lots
from treerooms.errors import InvalidNumber, InvalidRoad
from treerooms.trees import tree
from treerooms.trees.tree import (
    distance, is_place, is_still, moved, neighbours, place_of, point_of, stayers, still_lots, way,
)
from treerooms.webs.plain import are_equal, contrary, is_plain, plain, power, product
from treerooms.webs.webs import Web

from tests.support import (
    DEEP, DOWN, EIGHT, FLAT, FOUR, FREE23, HALVES, IDLE, JUDGED, LINE, LOOP, NO_WEBS, SHARED, SIX, SMALL, TURNS, TWELVE, TWO,
    WEBS, WHOLE, WIDE, Reading, chances, check_arguments, check_error, check_judged, line_road, roads_wrong, times, undone,
    webs_wrong,
)

PLACE = (1, 1, 2, -1)
NO_PLACES = (
    list(PLACE), (0,), (1,), (0, 1, 0, -1), (0, 1, 0), (1, 1, 2), (2, 1), (True, 1), (False, 1), (0, True), (0, -1), (0, 2), (0, 0), (0, 1, 1),
    (0, 1, 3, -1), (0, 1, True, -1), (0, 1, 1, -1, 0, 1), (0, 1, 1, 1), (1, 1, 2, -1, 0), (0, 1, 1, -1, 2, 1), (0, "1"), ("0", 1), (None, 1),
    (0, None), (0, (1,)), (0, [1]), ([0], 1), ((0, 1),), (0, 10 ** 60), (10 ** 60, 1), (0, FREE23), (0, {}), "01", {0: 1},
)
# A plain road with 60 ties, and one with two more.
LONG = (1, 1) + (1, -1, 1, 1) * 29 + (1, -1)
LONGER = LONG + (1, 1, 1, -1)
WORD = (1, 1, 2, -1, 0)
NO_WORDS = (
    list(WORD), (1, 1), (1, 1, 2), (0, 1, 0), (2,), (True,), (False,), (0, -1, 0), (0, 1, 3, -1, 0), (0, 1, 1, 1, 0), (0, 1, True, -1, 0),
    line_road(FREE23, 62), (0, 1, 10 ** 60, -1, 0), (WORD,),
)


def places(web, most):
    """All places of the web with at most so many ties, found from the roads."""
    reading = Reading(web)
    found = []
    for ties in range(most + 1):
        for road in reading.all_roads(0, ties):
            if road[-1] == 0 and reading.is_plain(0, road):
                found.append(road[:-1])
    return found


def are_neighbours(one, other):
    """Whether one of both is the other one with one stay and one tie more."""
    return (other != () and one == other[:-2]) or (one != () and other == one[:-2])


def turned_to_itself(room, lot):
    """Whether all members turn the lot into itself."""
    return all(times(room, times(room, c, a), undone(room, c)) in lot for a in lot for c in range(room.size))


def greatest(web):
    """The still lots, by all choices of lots that are turned to themselves."""
    choices = [[lot for lot in lots(room) if turned_to_itself(room, lot)] for room in web.rooms]
    good = []
    for row in itertools.product(*choices):
        if all(
            set(row[begin]) <= set(pairs) and {pairs[a] for a in row[begin]} == set(row[end])
            for begin, end, pairs in Reading(web).sides.values()
        ):
            good.append(row)
    best = max(good, key=lambda row: sum(map(len, row)))
    assert all(set(lot) <= set(top) for row in good for lot, top in zip(row, best))
    return best


class Places(unittest.TestCase):
    def test_constant(self):
        self.assertEqual(tree.MOST_TIES, 60)

    def test_is_place(self):
        for name, web in sorted(SMALL.items()):
            reading = Reading(web)
            for ties in range(4):
                for road in reading.all_roads(0, ties)[:2000]:
                    wanted = reading.is_plain(0, road)
                    self.assertIs(is_place(web, road[:-1]), wanted, (name, road))
                    self.assertIs(is_place(web, road), False)

    def test_is_place_takes_any_length_and_refuses_the_rest(self):
        self.assertEqual((len(LONG), len(LONGER)), (120, 124))
        for place in ((), PLACE, LONG, LONGER, LONG * 30):
            self.assertIs(is_place(FREE23, place), True)
        self.assertIs(is_place(LOOP, (0, 1) * 3000), True)
        self.assertIs(is_place(LOOP, (0, 1) * 3000 + (1, 1)), False)
        check_judged(self, is_place, (FREE23,), NO_PLACES + JUDGED + (LONG + (0, 1), LONGER[:-1], LONGER[:-1] + (1,)))
        check_judged(self, is_place, (Web.lone(SIX),), ((0,), (0, 1), (0, 0), (1,)))
        self.assertIs(is_place(Web.lone(SIX), ()), True)
        for value in NO_WEBS:
            check_error(self, webs_wrong()[0][1], is_place, (value, ()))
            check_error(self, webs_wrong()[0][1], is_place, (value, None))

    def test_place_of(self):
        for web in WEBS.values():
            reading, chance = Reading(web), chances(1)
            for _ in range(40):
                road = reading.some_road(chance, 0, chance.randrange(7))
                place = place_of(web, road)
                self.assertEqual(place, plain(web, 0, road)[:-1])
                self.assertIs(is_place(web, place), True)
                self.assertEqual(point_of(web, place), reading.end(0, road))
                for other in reading.exchanges(road)[:10]:
                    self.assertEqual(place_of(web, other), place)
        self.assertEqual(place_of(FREE23, line_road(FREE23, 60)), ())
        self.assertEqual(place_of(FREE23, LONG + (1,)), LONG)

    def test_point_of(self):
        self.assertEqual([point_of(WIDE, place) for place in ((), (0, 1), (0, 1, 0, 2), (0, 1, 0, 2, 1, -3))], [0, 1, 2, 3])
        self.assertEqual((point_of(FREE23, LONG), point_of(LOOP, (0, -1))), (0, 0))

    def test_wrong_arguments(self):
        roads = roads_wrong(
            [0, 1, 0], (1, 1), (2,), (True,), (0, -1, 0), (0, 1, 3), (0, True, 0), line_road(FREE23, 61), (0, 1, 10 ** 60),
        )
        check_arguments(self, place_of, (FREE23, (1, 1, 2)), [webs_wrong(), roads])
        wrong = [(value, error) for value, error in roads_wrong(*NO_PLACES, LONGER, LONGER[:-2]) if value != ()]
        for function in (point_of, neighbours, stayers):
            check_arguments(self, function, (FREE23, PLACE), [webs_wrong(), wrong])
            check_arguments(self, function, (FREE23, ()), [webs_wrong(), wrong])
            check_arguments(self, function, (FREE23, LONG), [webs_wrong(), wrong])
        for function in (way, distance):
            check_arguments(self, function, (FREE23, PLACE, LONG), [webs_wrong(), wrong, wrong])
        check_arguments(self, moved, (FREE23, WORD, LONG), [webs_wrong(), roads_wrong(*NO_WORDS), wrong])
        check_arguments(self, still_lots, (FREE23,), [webs_wrong()])
        check_arguments(self, is_still, (FREE23, WORD), [webs_wrong(), roads_wrong(*NO_WORDS)])


class Neighbours(unittest.TestCase):
    def test_neighbours(self):
        for name, web in sorted(SMALL.items()):
            known = places(web, 3)
            for place in places(web, 2):
                wanted = sorted(other for other in known if are_neighbours(place, other))
                self.assertEqual(neighbours(web, place), tuple(wanted), (name, place))

    def test_neighbours_are_as_many_as_left_lots(self):
        for web in WEBS.values():
            reading, chance = Reading(web), chances(2)
            for _ in range(10):
                place = place_of(web, reading.some_road(chance, 0, 5))
                point = point_of(web, place)
                many = sum(web.rooms[point].size // len(web.lot(tie)) for tie in web.beginnings(point))
                found = neighbours(web, place)
                self.assertEqual(len(found), many)
                self.assertEqual(list(found), sorted(set(found)))
                for other in found:
                    self.assertIn(place, neighbours(web, other))
        self.assertEqual(neighbours(Web.lone(SIX), ()), ())

    def test_neighbours_are_the_places_of_all_steps(self):
        for web in (SHARED, DEEP, WIDE, DOWN, TURNS):
            reading, chance = Reading(web), chances(3)
            for _ in range(8):
                place = place_of(web, reading.some_road(chance, 0, 4))
                found = set()
                for tie in web.beginnings(point_of(web, place)):
                    for stay in reading.leasts(tie):
                        found.add(place_of(web, place + (stay, tie, 0)))
                self.assertEqual(neighbours(web, place), tuple(sorted(found)))

    def test_neighbours_can_have_more_than_sixty_ties(self):
        self.assertEqual(neighbours(FREE23, LONG), (LONG[:-2], LONG + (1, 1)))
        self.assertEqual(neighbours(FREE23, LONG[:-2]), (LONG[:-4], LONG, LONG[:-2] + (2, -1)))


class Ways(unittest.TestCase):
    def test_ways(self):
        for name, web in sorted(SMALL.items()):
            known = places(web, 3)[:60]
            for one, other in itertools.product(known, repeat=2):
                row = way(web, one, other)
                self.assertEqual((row[0], row[-1]), (one, other))
                self.assertEqual(len(set(row)), len(row))
                for ahead, behind in zip(row, row[1:]):
                    self.assertTrue(are_neighbours(ahead, behind), (name, row))
                self.assertEqual(distance(web, one, other), len(row) - 1)

    def test_ways_of_far_places(self):
        self.assertEqual((way(FREE23, LONG, LONG), distance(FREE23, LONG, LONG)), ((LONG,), 0))
        self.assertEqual((way(FREE23, (), ()), distance(FREE23, (), ())), (((),), 0))
        other = (0, 1) + (1, -1, 1, 1) * 29
        self.assertEqual(distance(FREE23, LONG, other), 119)
        row = way(FREE23, LONG, other)
        self.assertEqual((len(row), row[60], row[59], row[61]), (120, (), LONG[:2], other[:2]))
        self.assertEqual(distance(FREE23, LONG, LONG[:-2]), 1)
        self.assertEqual(way(FREE23, (), PLACE), ((), (1, 1), PLACE))
        self.assertEqual(way(FREE23, PLACE, ()), (PLACE, (1, 1), ()))
        # One stay is shared, but no step.
        two = Web((TWO, TWO), ((0, 1, IDLE), (0, 1, IDLE)))
        self.assertEqual(way(two, (1, 1), (1, 2)), ((1, 1), (), (1, 2)))
        self.assertEqual(distance(two, (0, 1), (1, 1)), 2)


class Moving(unittest.TestCase):
    def test_moved(self):
        for web in WEBS.values():
            reading, chance = Reading(web), chances(4)
            for _ in range(30):
                word = reading.some_word(chance, 5)
                place = place_of(web, reading.some_road(chance, 0, 4))
                table = web.rooms[0].product
                road = (place + (0,))
                whole = word[:-1] + (table(word[-1], road[0]),) + road[1:]
                self.assertEqual(moved(web, word, place), plain(web, 0, whole)[:-1])
                self.assertEqual(moved(web, contrary(web, word), moved(web, word, place)), place)
                self.assertEqual(point_of(web, moved(web, word, place)), point_of(web, place))

    def test_products_move_as_the_second_and_then_the_first(self):
        for web in WEBS.values():
            reading, chance = Reading(web), chances(5)
            for _ in range(15):
                one, other = reading.some_word(chance, 4), reading.some_word(chance, 4)
                place = place_of(web, reading.some_road(chance, 0, 4))
                self.assertEqual(moved(web, product(web, one, other), place), moved(web, one, moved(web, other, place)))

    def test_distances_stay(self):
        for web in WEBS.values():
            reading, chance = Reading(web), chances(6)
            for _ in range(15):
                word = reading.some_word(chance, 5)
                one, other = (place_of(web, reading.some_road(chance, 0, 4)) for _ in range(2))
                told = distance(web, moved(web, word, one), moved(web, word, other))
                self.assertEqual(told, distance(web, one, other))

    def test_moved_can_have_more_than_sixty_ties(self):
        word = LONG + (0,)
        place = moved(FREE23, word, (1,) + LONG[1:])
        self.assertEqual(len(place) // 2, 120)
        self.assertEqual(place, LONG + LONG)
        self.assertEqual(moved(LOOP, (0,) + (1, 0) * 60, (0, 1) * 60), (0, 1) * 120)
        check_error(self, InvalidRoad(""), moved, (FREE23, (0,), place))

    def test_equal_words_move_alike(self):
        self.assertEqual(moved(LOOP, (1, 1, 0), (0, -1)), moved(LOOP, (0, 1, 1), (0, -1)))
        self.assertEqual(moved(FREE23, (1, 1, 0, -1, 1), PLACE), PLACE)


class Stayers(unittest.TestCase):
    def test_stayers(self):
        for web in WEBS.values():
            reading, chance = Reading(web), chances(7)
            for _ in range(8):
                place = place_of(web, reading.some_road(chance, 0, 4))
                room = web.rooms[point_of(web, place)]
                words = stayers(web, place)
                self.assertEqual((len(words), len(set(words))), (room.size, room.size))
                reached = place + (0,)
                for member, word in enumerate(words):
                    self.assertIs(is_plain(web, 0, word), True)
                    self.assertEqual(moved(web, word, place), place)
                    # The word, then the place, is the place, then the member.
                    ahead = word[:-1] + (web.rooms[0].product(word[-1], reached[0]),) + reached[1:]
                    self.assertEqual(plain(web, 0, ahead), plain(web, 0, place + (member,)))
                self.assertEqual(words[0], (0,))

    def test_no_other_word_leaves_a_place(self):
        for web in (FREE23, FLAT, LOOP, TURNS):
            reading = Reading(web)
            words = [
                word for ties in range(5) for word in reading.all_roads(0, ties)
                if reading.end(0, word) == 0 and reading.is_plain(0, word)
            ]
            for place in places(web, 2):
                left = [word for word in words if moved(web, word, place) == place]
                self.assertEqual(sorted(left), sorted(word for word in stayers(web, place) if len(word) <= 9))

    def test_the_first_place(self):
        for web in WEBS.values():
            self.assertEqual(stayers(web, ()), tuple((member,) for member in range(web.rooms[0].size)))

    def test_stayers_can_have_more_than_sixty_ties(self):
        words = stayers(FREE23, LONG[:-2])
        self.assertEqual([len(word) // 2 for word in words], [0, 118, 118])
        for word in words:
            self.assertIs(is_plain(FREE23, 0, word), True)
        self.assertEqual(words[1][:118], LONG[:-2])
        self.assertEqual([len(word) // 2 for word in stayers(FREE23, LONG)], [0, 120])


class Still(unittest.TestCase):
    def webs(self):
        same = tuple((member, member) for member in range(8))
        turned = ((0, 0), (3, 4), (4, 3))
        return list(WEBS.values()) + [
            Web((EIGHT, EIGHT), ((0, 1, same), (1, 0, IDLE + ((7, 7),)))),
            Web((HALVES,), ((0, 0, ((0, 0), (1, 2), (2, 3), (3, 1))),)),
            Web((HALVES,), ((0, 0, ((0, 0), (1, 2))),)),
            Web((HALVES,), ((0, 0, ((0, 0), (1, 1), (2, 3), (3, 2))), (0, 0, IDLE + ((1, 1),)))),
            Web((SIX, SIX), ((0, 1, turned),)),
            Web((SIX, SIX), ((0, 1, turned), (0, 1, ((0, 0), (3, 3), (4, 4))), (1, 1, turned))),
            Web((SIX, SIX), ((0, 1, IDLE + ((1, 1),)),)),
            Web((TWELVE, HALVES), ((0, 1, tuple((lot, at) for at, lot in enumerate(lots(TWELVE)[8]))),)),
            Web((FOUR, FOUR, FOUR), ((0, 1, ((0, 0), (2, 2))), (1, 2, ((0, 0), (1, 3), (2, 2), (3, 1))))),
            Web((FOUR, FOUR), ((0, 1, ((0, 0), (1, 3), (2, 2), (3, 1))), (0, 0, IDLE + ((2, 2),)))),
            Web((WHOLE, WHOLE), ((0, 1, tuple((member, member) for member in range(24))),)),
            Web((Room(1, ()), Room(1, ())), ((0, 1, IDLE),)),
        ]

    def test_still_lots_are_the_greatest(self):
        for web in self.webs():
            self.assertEqual(still_lots(web), greatest(web), str(web))
        self.assertEqual(still_lots(Web.lone(WHOLE)), (tuple(range(24)),))

    def test_words_that_leave_all_places(self):
        for web in self.webs():
            reading, chance = Reading(web), chances(8)
            still = still_lots(web)[0]
            some = [place_of(web, reading.some_road(chance, 0, 5)) for _ in range(60)]
            for member in range(web.rooms[0].size):
                self.assertIs(is_still(web, (member,)), member in still)
                if member in still:
                    self.assertTrue(all(moved(web, (member,), place) == place for place in some))
            for _ in range(20):
                word = reading.some_word(chance, 5)
                told = plain(web, 0, word)
                self.assertIs(is_still(web, word), len(told) == 1 and told[0] in still)
                if not is_still(web, word):
                    near = some + [(), moved(web, word, ())]
                    near += [place for one in near[:20] for place in neighbours(web, one)]
                    if any(moved(web, word, place) != place for place in near):
                        continue
                    self.fail((str(web), word))

    def test_equal_words(self):
        self.assertIs(is_still(LOOP, (0, 1, 1, -1, 0)), True)
        self.assertIs(is_still(LOOP, (0, 1, 1, -1, 1)), True)
        self.assertIs(is_still(LOOP, (0, 1, 1, 1, 0)), False)
        self.assertIs(is_still(FREE23, (1, 1, 0, -1, 1)), True)
        self.assertIs(is_still(FREE23, (1, 1, 0, -1, 0)), False)
        self.assertIs(is_still(LINE, (0,)), True)

    def test_what_is_not_true(self):
        self.assertEqual((are_equal(LOOP, (1,), (0,)), is_still(LOOP, (1,))), (False, True))
        shared = set(SHARED.lot(-1)) & set(SHARED.lot(2)) & set(SHARED.lot(-2))
        self.assertEqual((shared, still_lots(SHARED)), ({0}, ((0,), (0,))))
        six = Web((SIX, SIX), ((0, 1, IDLE + ((1, 1),)),))
        self.assertEqual((six.lot(1), still_lots(six)), ((0, 1), ((0,), (0,))))
        self.assertEqual([moved(six, (1,), place) == place for place in ((), (0, 1), (2, 1))], [True, True, False])
        self.assertIs(is_still(six, (1,)), False)

    def test_powers(self):
        self.assertIs(is_still(FREE23, power(FREE23, (1,), 2)), True)
        check_error(self, InvalidNumber(41), power, (FREE23, (1,), 41))


if __name__ == "__main__":
    unittest.main()
