"""Stage 2: rooms led into rooms, [2.1] to [2.5]."""

import itertools
import unittest

from treerooms.base import leading
from treerooms.base.leading import (
    are_one_kind, is_leading, is_pairs, leadings, pairs_made, renamings, room_of_lot,
)
from treerooms.base.rooms import Room, lot_of, lots
from treerooms.errors import InvalidOperation, InvalidRoom

from tests.support import (
    EIGHT, FOUR, HALVES, JUDGED, NO_ROOMS, ROOMS, SIX, THREE, TWELVE, TWO, WHOLE,
    chances, check_arguments, check_error, check_judged, operations, rooms_wrong, times,
)

SMALL = (Room(1, ()), Room(6, ()), TWO, THREE, FOUR, HALVES, SIX, Room.round(6), EIGHT)
MANY = Room(6, ((1, 0, 2, 3, 4, 5), (0, 1, 3, 2, 4, 5), (0, 1, 2, 3, 5, 4)))
# The permutations of the six edges of a body with four corners: of one kind with the room of four points.
EDGES = tuple(itertools.combinations(range(4), 2))


def on_edges(permutation):
    return tuple(EDGES.index(tuple(sorted((permutation[a], permutation[b])))) for a, b in EDGES)


SIX_EDGES = Room(6, (on_edges((1, 0, 2, 3)), on_edges((1, 2, 3, 0))))


def goes_along(one, other, row):
    """Whether a row of members leads products to products, no two to one."""
    if len(set(row)) != len(row):
        return False
    return all(row[times(one, a, b)] == times(other, row[a], row[b]) for a in range(one.size) for b in range(one.size))


def are_closed(one, other, pairs):
    """Whether a set of pairs is closed, by all products of two of them."""
    if not pairs or len({a for a, _ in pairs}) < len(pairs) or len({b for _, b in pairs}) < len(pairs):
        return False
    return all((times(one, a, c), times(other, b, d)) in pairs for a, b in pairs for c, d in pairs)


def made(one, other, some):
    """The least closed pairs, by all products, None if there are none."""
    found = {(0, 0), *some}
    while True:
        more = found | {(times(one, a, c), times(other, b, d)) for a, b in found for c, d in found}
        if more == found:
            return tuple(sorted(found)) if are_closed(one, other, found) else None
        found = more


class Leadings(unittest.TestCase):
    def test_constant(self):
        self.assertEqual(leading.MOST_PAIRS, 24)

    def test_all_leadings_ascending(self):
        for one, other in itertools.product(SMALL, repeat=2):
            wanted = []
            if one.size <= other.size:
                # All permutations would be too many; 0 must be led to 0.
                rows = itertools.permutations(range(1, other.size), one.size - 1)
                wanted = [(0,) + row for row in rows if goes_along(one, other, (0,) + row)]
            self.assertEqual(list(leadings(one, other)), wanted, (str(one), str(other)))

    def test_leadings_of_great_rooms(self):
        for room, many in ((WHOLE, 24), (TWELVE, 24), (MANY, 168), (ROOMS["twenty"], 20), (ROOMS["twenty-four of six"], 24)):
            rows = list(leadings(room, room))
            self.assertEqual(len(rows), many)
            self.assertEqual(rows, sorted(set(rows)))
            self.assertTrue(all(goes_along(room, room, row) for row in rows[::7]))
        self.assertEqual(len(list(leadings(SIX, WHOLE))), 24)
        self.assertEqual(len(list(leadings(HALVES, WHOLE))), 24)
        self.assertEqual(list(leadings(Room.round(6), WHOLE)), [])
        self.assertEqual(list(leadings(WHOLE, SIX)), [])

    def test_leadings_are_a_generator(self):
        rows = leadings(TWO, SIX)
        self.assertIs(iter(rows), rows)
        self.assertEqual((next(rows), next(rows), next(rows), next(rows, None)), ((0, 1), (0, 2), (0, 5), None))

    def test_leadings_raise_when_the_first_one_is_asked_for(self):
        for one, other in ((None, TWO), (TWO, None), (3, 4), (TWO, [TWO]), (True, False)):
            rows = leadings(one, other)
            with self.assertRaises(InvalidRoom):
                next(rows)
        check_arguments(self, leadings, (TWO, SIX), [rooms_wrong(), rooms_wrong()])

    def test_is_leading(self):
        for one, other in itertools.product((Room(6, ()), TWO, THREE, FOUR, HALVES, SIX), repeat=2):
            for row in itertools.product(range(min(other.size, 4)), repeat=min(one.size, 4)):
                wanted = len(row) == one.size and goes_along(one, other, row)
                self.assertIs(is_leading(one, other, row), wanted)
        for row in leadings(SIX, WHOLE):
            self.assertIs(is_leading(SIX, WHOLE, row), True)
            self.assertIs(is_leading(SIX, WHOLE, row[:1] + (row[2], row[1]) + row[3:]), False)

    def test_is_leading_refuses(self):
        wrong = (
            (), (0,), [0, 1], (0, 0), (1, 0), (0, True), (False, 1), (0, 3), (0, 1, 2), (0, 6), (0, -1), (0, "1"), (0, None), (0, [1]),
            (0, (1,)), (0, 10 ** 4000), {0: 1}, (0, -5), "01",
        )
        check_judged(self, is_leading, (TWO, SIX), wrong + JUDGED)
        check_judged(self, is_leading, (SIX, TWO), ((0, 1, 0, 1, 0, 1), (0,) * 6, (0, 1), tuple(range(6))))
        check_judged(self, is_leading, (SIX, SIX), ((0, 2, 1, 3, 4, 5), tuple(range(5)), tuple(range(7)), (0, 1, 2, 3, 4, 4)))
        for value in NO_ROOMS:
            check_error(self, InvalidRoom(""), is_leading, (value, SIX, (0, 1)))
            check_error(self, InvalidRoom(""), is_leading, (TWO, value, (0, 1)))
            check_error(self, InvalidRoom(""), is_leading, (TWO, value, None))

    def test_leadings_keep_what_is_told(self):
        for one, other in ((SIX, WHOLE), (EIGHT, WHOLE), (TWELVE, WHOLE), (FOUR, ROOMS["twenty"])):
            for row in leadings(one, other):
                self.assertEqual(row[0], 0)
                for member in range(one.size):
                    self.assertEqual(row[one.contrary(member)], other.contrary(row[member]))
                    self.assertEqual(one.order(member), other.order(row[member]))
                for lot in lots(one):
                    self.assertIn(tuple(sorted(row[member] for member in lot)), lots(other))


class Renamings(unittest.TestCase):
    def test_renamings(self):
        for one, other in itertools.product(SMALL, repeat=2):
            wanted = tuple(leadings(one, other)) if one.size == other.size else ()
            self.assertEqual(renamings(one, other), wanted)
            self.assertIs(are_one_kind(one, other), wanted != ())
        self.assertEqual(len(renamings(WHOLE, SIX_EDGES)), 24)
        self.assertIs(are_one_kind(SIX_EDGES, WHOLE), True)
        self.assertIs(are_one_kind(WHOLE, ROOMS["twenty-four of six"]), False)
        self.assertEqual(renamings(TWO, SIX), ())
        self.assertEqual(renamings(SIX, TWO), ())

    def test_rooms_of_one_kind_have_equally_many_members_of_each_order(self):
        for one, other in itertools.product(ROOMS.values(), repeat=2):
            if are_one_kind(one, other):
                orders = [sorted(room.order(member) for member in range(room.size)) for room in (one, other)]
                self.assertEqual(orders[0], orders[1])
            self.assertEqual(are_one_kind(one, other), are_one_kind(other, one))

    def test_leadings_with_the_same_goals_differ_by_a_renaming(self):
        rows = list(leadings(THREE, WHOLE))
        own = renamings(THREE, THREE)
        for first, second in itertools.product(rows, repeat=2):
            along = any(tuple(first[goal] for goal in renaming) == second for renaming in own)
            self.assertEqual(set(first) == set(second), along)

    def test_wrong_rooms(self):
        for function in (renamings, are_one_kind):
            check_arguments(self, function, (TWO, THREE), [rooms_wrong(), rooms_wrong()])

    def test_what_is_not_true(self):
        self.assertEqual((FOUR.size, HALVES.size, are_one_kind(FOUR, HALVES)), (4, 4, False))
        self.assertIn((0, 2, 1), renamings(THREE, THREE))
        self.assertIs(is_leading(SIX, SIX, (0, 2, 1, 3, 4, 5)), False)


class LotsAsRooms(unittest.TestCase):
    def test_room_of_lot(self):
        for room in ROOMS.values():
            for lot in lots(room):
                own = room_of_lot(room, lot)
                self.assertEqual(own.members, tuple(room.members[member] for member in lot))
                self.assertEqual(own.points, room.points)
                self.assertIs(is_leading(own, room, lot), True)

    def test_leadings_are_the_renamings_onto_lots(self):
        for one, other in ((TWO, SIX), (THREE, WHOLE), (FOUR, EIGHT), (HALVES, WHOLE), (SIX, WHOLE), (EIGHT, WHOLE)):
            found = []
            for lot in lots(other):
                if len(lot) == one.size:
                    found.extend(tuple(lot[goal] for goal in row) for row in renamings(one, room_of_lot(other, lot)))
            self.assertEqual(sorted(found), list(leadings(one, other)))

    def test_wrong_arguments(self):
        wrong = operations((), [0, 1], (1, 0), (0, 1, 2), (0, True), (0, 6), (1,), (0, 0), (0, 4, 3))
        check_arguments(self, room_of_lot, (SIX, (0, 3, 4)), [rooms_wrong(), wrong])


class Pairs(unittest.TestCase):
    def test_pairs_made(self):
        for one, other in itertools.product((Room(1, ()), TWO, THREE, FOUR, HALVES, SIX), repeat=2):
            self.assertEqual(pairs_made(one, other, ()), ((0, 0),))
            pairs = list(itertools.product(range(one.size), range(other.size)))
            for pair in pairs:
                self.assertEqual(pairs_made(one, other, (pair,)), made(one, other, (pair,)))
        chance = chances(2)
        for _ in range(300):
            one, other = chance.choice((SIX, EIGHT, FOUR, TWELVE)), chance.choice((SIX, EIGHT, TWELVE, HALVES))
            some = tuple((chance.randrange(one.size), chance.randrange(other.size)) for _ in range(2))
            self.assertEqual(pairs_made(one, other, some), made(one, other, some))

    def test_pairs_made_of_rows_that_go_along(self):
        for row in list(leadings(EIGHT, WHOLE))[::3]:
            whole = tuple(enumerate(row))
            self.assertEqual(pairs_made(EIGHT, WHOLE, whole[::-1]), whole)
            self.assertEqual(pairs_made(EIGHT, WHOLE, whole * 3), whole)
            for first, second in itertools.combinations(whole, 2):
                lot = lot_of(EIGHT, (first[0], second[0]))
                self.assertEqual(pairs_made(EIGHT, WHOLE, (second, first)), tuple(whole[member] for member in lot))

    def test_at_most_24_pairs(self):
        self.assertEqual(pairs_made(TWO, SIX, ((1, 2),) * 24), ((0, 0), (1, 2)))
        check_error(self, InvalidOperation(""), pairs_made, (TWO, SIX, ((1, 2),) * 25))
        check_error(self, InvalidOperation(""), pairs_made, (TWO, SIX, ((0, 0),) * 25))
        same = tuple((member, member) for member in range(24))
        self.assertEqual(pairs_made(WHOLE, WHOLE, same), same)

    def test_pairs_made_of_wrong_arguments(self):
        wrong = operations(
            [(1, 2)], ([1, 2],), ((1,),), ((1, 2, 0),), ((2, 1),), ((1, 6),), ((-1, 1),), ((1, -1),), ((True, 1),), ((1, True),),
            ((1, 2), (1, None)), ((1, "2"),), ((1, 10 ** 60),), ((10 ** 60, 1),), (1, 2), ((0, 0), ()), (((1,), 2),), ((1, [2]),),
        )
        check_arguments(self, pairs_made, (TWO, SIX, ((1, 2),)), [rooms_wrong(), rooms_wrong(), wrong])

    def test_is_pairs(self):
        for one, other in ((TWO, FOUR), (FOUR, TWO), (THREE, THREE), (TWO, TWO), (HALVES, TWO), (Room(1, ()), SIX)):
            pairs = list(itertools.product(range(one.size), range(other.size)))
            for many in range(5):
                for some in itertools.combinations(pairs, many):
                    self.assertIs(is_pairs(one, other, some), are_closed(one, other, set(some)))
        for row in leadings(SIX, WHOLE):
            whole = tuple(enumerate(row))
            self.assertIs(is_pairs(SIX, WHOLE, whole), True)
            self.assertIs(is_pairs(WHOLE, SIX, tuple(sorted((b, a) for a, b in whole))), True)
            self.assertIs(is_pairs(SIX, WHOLE, whole[:-1]), False)
            self.assertIs(is_pairs(SIX, WHOLE, whole[::-1]), False)

    def test_is_pairs_refuses(self):
        wrong = (
            (), ((1, 2),), ((0, 0), (0, 0)), ((1, 2), (0, 0)), [(0, 0)], ([0, 0],), ((0,),), ((0, 0, 0),), ((0, 0), (1, 3)),
            ((0, 0), (1, 1), (1, 2)), ((0, 0), (True, 2)), ((False, 0),), ((0, False),), ((0, 0), (2, 1)), ((0, 0), (1, 6)),
            ((0, 0), (-1, 2)), ((0, 0), (1, 10 ** 4000)), ((0, 0), (1, None)), ((0, 0), 1), (0, 0), ((0, 0), (1, 2), (1, 2)),
            ((0, 0), (0, 1)), ((0, 0), (1, 0)), ((0, 0), ([1], 2)), {(0, 0): 1},
        )
        check_judged(self, is_pairs, (TWO, SIX), wrong + JUDGED)
        for value in NO_ROOMS:
            check_error(self, InvalidRoom(""), is_pairs, (value, SIX, ((0, 0),)))
            check_error(self, InvalidRoom(""), is_pairs, (TWO, value, ((0, 0),)))


if __name__ == "__main__":
    unittest.main()
