"""Stage 1: rooms, [0.1] to [0.9] and [1.1] to [1.5]."""

import itertools
import unittest

from treerooms.base import rooms
from treerooms.base.rooms import Room, classes, is_lot, left_lots, lot_of, lots, parted, turned
from treerooms.errors import InvalidNumber, InvalidOperation, InvalidRoom, TooMany

from tests.support import (
    EIGHT, FOUR, FREE23, HALVES, JUDGED, JUNK, NO_ROOMS, ROOMS, SIX, THREE, TWELVE, TWO, WHOLE,
    check_arguments, check_error, check_judged, closure, compose, generated, numbers, operations, rooms_wrong, times,
    undone,
)

SWAPS = ((1, 0, 2), (0, 2, 1))


def all_lots(room):
    """All lots, by what up to three members make; all lots of our rooms are so made."""
    found = {closure(room, some) for many in range(4) for some in itertools.combinations(range(room.size), many)}
    return tuple(sorted(found, key=lambda lot: (len(lot), lot)))


class TheClass(unittest.TestCase):
    def test_constants(self):
        told = (rooms.MAX_POINTS, rooms.MAX_MAKERS, rooms.MAX_MEMBERS, rooms.MOST_POWER)
        self.assertEqual(told, (6, 4, 24, 20))

    def test_members_are_the_products_of_the_makers_ascending(self):
        for points, makers in (
            (1, ()), (1, ((0,),)), (6, ()), (3, SWAPS), (3, ((2, 1, 0),)), (4, ((1, 0, 3, 2), (2, 3, 0, 1))),
            (5, ((1, 2, 3, 4, 0), (0, 4, 3, 2, 1))), (6, ((1, 2, 0, 3, 4, 5), (0, 2, 3, 1, 4, 5), (0, 1, 2, 3, 5, 4))),
            (6, ((1, 0, 2, 3, 4, 5), (0, 1, 3, 2, 4, 5), (0, 1, 2, 3, 5, 4), (0, 1, 2, 3, 4, 5))),
            (6, ((1, 2, 3, 4, 5, 0),) * 4), (4, ((1, 2, 3, 0), (1, 0, 2, 3))),
        ):
            room = Room(points, makers)
            self.assertEqual(room.members, generated(points, makers))
            self.assertEqual((room.points, room.size, len(room)), (points, len(room.members), len(room.members)))
            self.assertIs(type(room.members), tuple)

    def test_sizes(self):
        sizes = {name: room.size for name, room in ROOMS.items()}
        self.assertEqual(sizes, {
            "one point": 1, "six points, idle": 1, "two": 2, "three": 3, "six": 6, "four": 4, "halves": 4, "five": 5,
            "round six": 6, "apart": 4, "eight": 8, "eight by threes": 8, "ten": 10, "twelve": 12, "sixteen": 16,
            "eighteen": 18, "twenty": 20, "whole four": 24, "twenty-four of six": 24, "four makers": 24,
        })

    def test_the_members_of_a_room_are_numbered_ascending_from_the_idle_one(self):
        for room in ROOMS.values():
            self.assertEqual(room.members[0], tuple(range(room.points)))
            self.assertEqual(list(room.members), sorted(set(room.members)))

    def test_round(self):
        for size in range(1, 7):
            room = Room.round(size)
            self.assertEqual((room.points, room.size), (size, size))
            for member in range(size):
                self.assertEqual(room.members[member], tuple((point + member) % size for point in range(size)))
        check_arguments(self, Room.round, (6,), [numbers(0, 7, -1, 24)])
        check_arguments(self, Room.round, (1,), [numbers(0, 7)])

    def test_whole(self):
        for points in range(1, 5):
            room = Room.whole(points)
            self.assertEqual(room.members, tuple(itertools.permutations(range(points))))
            self.assertEqual(room.points, points)
        check_arguments(self, Room.whole, (4,), [numbers(0, 5, 6, -1)])

    def test_points(self):
        for points in range(1, 7):
            self.assertEqual(Room(points, ()).members, (tuple(range(points)),))
        for wrong in ((0, ()), (7, ()), (7, (tuple(range(7)),)), (-1, ()), (0, ((),))):
            check_error(self, InvalidNumber(wrong[0]), Room, wrong)

    def test_wrong_points_and_makers(self):
        makers = [(value, InvalidRoom("")) for value in JUNK + (
            list(SWAPS), ([1, 0, 2],), ((1, 0),), ((1, 0, 2, 3),), ((1, 0, 2), (0, 1)), ((0, 0, 2),), ((1, 2, 3),),
            ((-1, 0, 1),), ((1, 0, True),), ((True, False, 2),), ((0, True, 2),), ((0, 1, "2"),), ((0, 1, 10 ** 60),),
            ((0, 1, 2),) * 5, (((0,), 1, 2),), (([0], 1, 2),), ((),), TWO, (1, 0, 2), ((0, 1, 1),), ((0, 1, 2, 2),),
        )]
        check_arguments(self, Room, (3, SWAPS), [numbers(0, 7, -1, -3), makers])

    def test_at_most_four_makers(self):
        idle = (0, 1)
        self.assertEqual(Room(2, (idle,) * 4).size, 1)
        check_error(self, InvalidRoom(""), Room, (2, (idle,) * 5))

    def test_more_than_24_members(self):
        turn, swap = (1, 2, 3, 4, 0), (1, 0, 2, 3, 4)
        check_error(self, TooMany(24), Room, (5, (turn, swap)))
        check_error(self, TooMany(24), Room, (5, (turn, (1, 2, 0, 3, 4))))
        sides = ((1, 2, 0, 3, 4, 5), (1, 0, 2, 3, 4, 5), (0, 1, 2, 4, 5, 3), (0, 1, 2, 4, 3, 5))
        check_error(self, TooMany(24), Room, (6, sides))
        check_error(self, TooMany(24), Room, (6, ((1, 2, 3, 0, 4, 5), (1, 0, 2, 3, 4, 5), (0, 1, 2, 3, 5, 4))))

    def test_too_many_members_are_told_behind_all_else(self):
        turn, swap = (1, 2, 3, 4, 0), (1, 0, 2, 3, 4)
        check_error(self, InvalidRoom(""), Room, (5, (turn, swap, (0, 1))))
        check_error(self, InvalidRoom(""), Room, (5, (turn, swap, swap, swap, swap)))
        check_error(self, InvalidNumber(7), Room, (7, (turn, swap)))

    def test_equality(self):
        self.assertTrue(Room(3, ((1, 2, 0),)) == THREE)
        self.assertTrue(Room(3, ((2, 0, 1), (0, 1, 2))) == Room.round(3))
        self.assertFalse(Room(3, ((1, 2, 0),)) != THREE)
        self.assertTrue(Room.whole(4) == ROOMS["four makers"])
        for unlike in (SIX, Room(4, ((1, 2, 0, 3),)), Room(3, ()), THREE.members, 3, None, "room", [THREE], True, FREE23):
            self.assertFalse(THREE == unlike)
            self.assertTrue(THREE != unlike)
            self.assertFalse(unlike == THREE)
        self.assertFalse(Room(2, ()) == Room(3, ()))
        self.assertFalse(Room(3, ((1, 0, 2),)) == Room(3, ((0, 2, 1),)))
        for value in JUDGED[:-4]:
            self.assertIs(THREE == value, False)
            self.assertIs(THREE != value, True)

    def test_iterating_yields_the_permutations(self):
        for room in ROOMS.values():
            self.assertEqual(tuple(room), room.members)
        first, second = iter(TWO), iter(TWO)
        self.assertEqual((next(first), next(second), next(first)), ((0, 1), (0, 1), (1, 0)))

    def test_text(self):
        self.assertEqual(str(TWO), "room of 2 points, 2 members")
        self.assertEqual(str(ROOMS["twenty-four of six"]), "room of 6 points, 24 members")
        self.assertEqual(str(Room(1, ())), "room of 1 points, 1 members")


class Members(unittest.TestCase):
    def test_product_does_the_first_one_first(self):
        for name, room in ROOMS.items():
            for one, other in itertools.product(range(room.size), repeat=2):
                reached = room.members[room.product(one, other)]
                self.assertEqual(reached, compose(room.members[one], room.members[other]), name)

    def test_contrary(self):
        for room in ROOMS.values():
            for member in range(room.size):
                contrary = room.contrary(member)
                self.assertEqual(contrary, undone(room, member))
                self.assertEqual((room.product(member, contrary), room.product(contrary, member)), (0, 0))

    def test_order_and_power(self):
        for room in ROOMS.values():
            for member in range(room.size):
                powers = [0]
                for _ in range(24):
                    powers.append(times(room, powers[-1], member))
                order = powers.index(0, 1)
                self.assertEqual(room.order(member), order)
                self.assertEqual(room.size % order, 0)
                for many in range(-20, 21):
                    self.assertEqual(room.power(member, many), powers[many % order])

    def test_number_of(self):
        for room in ROOMS.values():
            for number, permutation in enumerate(room.members):
                self.assertEqual(room.number_of(permutation), number)
        wrong = operations(
            (1, 0, 2), (0, 2, 1), (2, 1, 0), [0, 1, 2], (0, 1), (0, 1, 2, 3), (), (0, True, 2), (False, 1, 2), (1, 1, 1),
            ((0, 1, 2),), (0, 1, 3), ([0], 1, 2), (10 ** 60, 1, 2), ("0", "1", "2"),
        )
        check_arguments(self, THREE.number_of, ((1, 2, 0),), [wrong])
        check_error(self, InvalidOperation(""), Room(2, ()).number_of, ((1, 0),))

    def test_wrong_members(self):
        members = numbers(6, 7, -1, -6, 24)
        check_arguments(self, SIX.product, (5, 0), [members, members])
        check_arguments(self, SIX.contrary, (5,), [members])
        check_arguments(self, SIX.order, (5,), [members])
        check_arguments(self, SIX.power, (5, -20), [members, numbers(21, -21, 100)])
        check_arguments(self, SIX.power, (0, 20), [members, numbers(21, -21)])
        check_error(self, InvalidNumber(1), Room(4, ()).contrary, (1,))
        check_error(self, InvalidNumber(24), WHOLE.order, (24,))
        check_error(self, InvalidNumber(6), SIX.product, (6, 7))


class Lots(unittest.TestCase):
    def test_lots(self):
        for name, room in ROOMS.items():
            self.assertEqual(lots(room), all_lots(room), name)
        self.assertEqual(len(lots(WHOLE)), 30)

    def test_lots_are_all_sets_that_are_closed(self):
        for room in (Room(1, ()), TWO, SIX, FOUR, HALVES, EIGHT, ROOMS["eight by threes"]):
            closed = [
                (0,) + some for many in range(room.size)
                for some in itertools.combinations(range(1, room.size), many)
                if {times(room, a, b) for a in (0,) + some for b in (0,) + some} == {0, *some}
            ]
            self.assertEqual(lots(room), tuple(sorted(closed, key=lambda lot: (len(lot), lot))))

    def test_a_lot_has_all_contraries_and_its_size_divides_that_of_the_room(self):
        for room in ROOMS.values():
            for lot in lots(room):
                self.assertEqual(room.size % len(lot), 0)
                self.assertEqual(tuple(sorted(room.contrary(member) for member in lot)), lot)

    def test_lot_of(self):
        for room in ROOMS.values():
            self.assertEqual(lot_of(room, ()), (0,))
            for some in itertools.product(range(room.size), repeat=2):
                self.assertEqual(lot_of(room, some), closure(room, some))
        self.assertEqual(lot_of(SIX, (5, 0, 1, 1)), (0, 1, 2, 3, 4, 5))
        self.assertEqual(lot_of(WHOLE, tuple(range(23, -1, -1))), tuple(range(24)))

    def test_lot_of_takes_at_most_24_members(self):
        self.assertEqual(lot_of(TWO, (1,) * 24), (0, 1))
        self.assertEqual(lot_of(TWO, (0,) * 24), (0,))
        check_error(self, InvalidOperation(""), lot_of, (TWO, (1,) * 25))
        check_error(self, InvalidOperation(""), lot_of, (WHOLE, tuple(range(24)) + (0,)))

    def test_lot_of_wrong_arguments(self):
        wrong = operations((6,), (0, 6), (0, -1), (0, True), [0, 1], (0, "1"), ((0,),), (0, [1]), (0, None), (1, 10 ** 99), 3)
        check_arguments(self, lot_of, (SIX, (1,)), [rooms_wrong(), wrong])

    def test_is_lot(self):
        for room in ROOMS.values():
            known = lots(room)
            for lot in known:
                self.assertIs(is_lot(room, lot), True)
            for many in range(4):
                for some in itertools.product(range(min(room.size, 7)), repeat=many):
                    self.assertIs(is_lot(room, some), some in known)

    def test_is_lot_refuses(self):
        wrong = (
            (), [0, 1], (1, 0), (0, 0), (0, 1, 1), (1,), (0, True), (False, 1), (0, 3), (0, 1, 2), (0, 6), (-1, 0), (0, 1, 2, 3, 4),
            tuple(range(7)), (0, 3, 4, 5), (0, 4, 3), (0, "1"), (0, [1]), ((0, 1),), (0, 1) * 40, (0, 10 ** 4000), (0, None), "01",
            {0: 1}, (0, 3, True),
        )
        check_judged(self, is_lot, (SIX,), wrong + JUDGED)
        check_judged(self, is_lot, (TWO,), ((0, True), (False, True), (False, 1), (False,), (True,)))
        for value in NO_ROOMS:
            check_error(self, InvalidRoom(""), is_lot, (value, (0,)))
            check_error(self, InvalidRoom(""), is_lot, (value, None))

    def test_left_lots(self):
        for room in ROOMS.values():
            for lot in lots(room):
                wanted = {tuple(sorted(times(room, g, a) for a in lot)) for g in range(room.size)}
                self.assertEqual(left_lots(room, lot), tuple(sorted(wanted)))
                self.assertEqual(sorted(g for left in left_lots(room, lot) for g in left), list(range(room.size)))

    def test_parted(self):
        for room in (SIX, EIGHT, TWELVE, ROOMS["twenty"]):
            for lot in lots(room):
                for member in range(room.size):
                    least, within = parted(room, lot, member)
                    self.assertEqual(least, min(times(room, member, a) for a in lot))
                    self.assertIn(within, lot)
                    self.assertEqual(times(room, least, within), member)

    def test_left_lots_and_parted_of_wrong_arguments(self):
        wrong = operations((), [0, 1], (1, 0), (0, 1, 2), (0, True), (0, 6), (1,), (0, 0), 0, (0, 3))
        check_arguments(self, left_lots, (SIX, (0, 1)), [rooms_wrong(), wrong])
        check_arguments(self, parted, (SIX, (0, 1), 5), [rooms_wrong(), wrong, numbers(6, -1)])

    def test_turned(self):
        for room in ROOMS.values():
            for member, by in itertools.product(range(room.size), repeat=2):
                self.assertEqual(turned(room, member, by), times(room, times(room, by, member), undone(room, by)))
        check_arguments(self, turned, (SIX, 5, 5), [rooms_wrong(), numbers(6, -1), numbers(6, -1)])

    def test_classes(self):
        for room in ROOMS.values():
            wanted = {
                tuple(sorted({times(room, times(room, c, g), undone(room, c)) for c in range(room.size)}))
                for g in range(room.size)
            }
            self.assertEqual(classes(room), tuple(sorted(wanted)))
            for alike in classes(room):
                self.assertEqual(room.size % len(alike), 0)
        self.assertEqual([len(alike) for alike in classes(WHOLE)], [1, 6, 8, 3, 6])

    def test_classes_and_lots_of_what_is_no_room(self):
        check_arguments(self, classes, (SIX,), [rooms_wrong()])
        check_arguments(self, lots, (SIX,), [rooms_wrong()])

    def test_what_is_not_true(self):
        self.assertEqual((THREE.order(1), THREE.order(2)), (3, 3))
        self.assertNotIn((1, 2), classes(THREE))
        right = tuple(sorted({tuple(sorted(SIX.product(a, g) for a in (0, 1))) for g in range(6)}))
        self.assertNotEqual(left_lots(SIX, (0, 1)), right)
        self.assertNotIn(6, [len(lot) for lot in lots(TWELVE)])


if __name__ == "__main__":
    unittest.main()
