"""Stage 3: webs of rooms, [0.10], [0.11] and [3.1] to [3.4]."""

import itertools
import unittest
from fractions import Fraction

from treerooms.base.leading import is_pairs
from treerooms.base.rooms import Room
from treerooms.errors import InvalidNumber, InvalidOperation, InvalidWeb, Refused
from treerooms.webs import webs
from treerooms.webs.webs import Web, fraction, least_tree, needed_ties, web_fault

from tests.support import (
    DEEP, DOWN, EIGHT, FLAT, FOUR, FREE23, HALVES, IDLE, JUDGED, JUNK, LINE, LOOP, SHARED, SIX, STAR, THREE, TURNS, TWO,
    WEBS, WHOLE, WIDE, Reading, check_arguments, check_error, numbers, rooms_wrong, times, webs_wrong,
)

TIE = (0, 1, IDLE)
WRONG_ROOMS = tuple(value for value in JUNK if value != ()) + (
    (), [TWO], (TWO, None), (None, TWO), (TWO, 2), (TWO, (TWO,)), (TWO,) * 6, (TWO, TWO.members), (TWO, FREE23), TWO, FREE23,
)
WRONG_TIES = JUNK + (
    [TIE], ([0, 1, IDLE],), ((0, 1),), ((0, 1, IDLE, 0),), TIE, (TIE, None), ((0, 2, IDLE),), ((2, 0, IDLE),), ((-1, 1, IDLE),),
    ((0, -1, IDLE),), ((True, 1, IDLE),), ((0, True, IDLE),), ((False, 1, IDLE),), ((0, 1, [(0, 0)]),), ((0, 1, ([0, 0],)),),
    ((0, 1, ((0,),)),), ((0, 1, ((0, 0, 0),)),), ((0, 1, ((0, 0), (0, 0))),), ((0, 1, ((1, 1), (0, 0))),),
    ((0, 1, ((0, 1), (0, 0))),), ((0, 1, ((-1, 0), (0, 0))),), ((0, 1, ((0, -1), (0, 0))),), ((0, 1, ((False, 0),)),),
    ((0, 1, ((0, False),)),), ((0, 1, ((0, 0), (1, True))),), ((0, 1, ((0, 0), (1, "1"))),), ((0, 1, ((0, 0), None)),),
    ((0, 1, ((0, 0), (1, 10 ** 60))),), ((0, 1, ((0, 0), (10 ** 60, 1))),), ((0, 1, ((0, 0), (1, 10 ** 99))),),
    ((0, 10 ** 60, IDLE),), ((0, 1, 0),), ((0, 1, None),), ((0, 1, ((0, 0), ([1], 1))),), (TIE,) * 7, ((None, 1, IDLE),),
    ((0, 1, ((0, 0), (1, (1,)))),), ((0, [1], IDLE),),
)


def wrong_rooms():
    return [(value, InvalidWeb("")) for value in WRONG_ROOMS]


def wrong_ties():
    return [(value, InvalidWeb("")) for value in WRONG_TIES]


def hang_together(points, ties):
    """Whether each point is reached from the point 0."""
    reached = {0}
    for _ in range(points):
        for begin, end, _ in ties:
            if begin in reached or end in reached:
                reached |= {begin, end}
    return len(reached) == points


class TheClass(unittest.TestCase):
    def test_constants(self):
        self.assertEqual((webs.MAX_POINTS, webs.MAX_TIES), (5, 6))

    def test_properties(self):
        for web in WEBS.values():
            same = Web(web.rooms, web.ties)
            self.assertEqual((same.points, same.size, len(same)), (len(web.rooms), len(web.ties), len(web.ties)))
        rooms, ties = (TWO, THREE), ((0, 1, IDLE), (1, 1, ((0, 0), (1, 2), (2, 1))))
        web = Web(rooms, ties)
        self.assertEqual((web.rooms == rooms, web.ties, web.points, web.size), (True, ties, 2, 2))

    def test_lone(self):
        for room in (Room(1, ()), TWO, SIX, WHOLE):
            web = Web.lone(room)
            self.assertEqual((web.rooms, web.ties, web.points, web.size), ((room,), (), 1, 0))
        check_arguments(self, Web.lone, (TWO,), [rooms_wrong()])

    def test_directed_ties(self):
        for web in WEBS.values():
            reading = Reading(web)
            for tie, (begin, end, pairs) in reading.sides.items():
                self.assertEqual((web.begin(tie), web.end(tie), web.lot(tie)), (begin, end, tuple(sorted(pairs))))
                for member in range(web.rooms[begin].size):
                    if member in pairs:
                        self.assertEqual(web.carried(tie, member), pairs[member])
                    else:
                        check_error(self, InvalidOperation(""), web.carried, (tie, member))

    def test_gone_back_ties_carry_back_and_products_to_products(self):
        for web in WEBS.values():
            for tie in Reading(web).sides:
                lot, back = web.lot(tie), web.lot(-tie)
                self.assertEqual(len(lot), len(back))
                self.assertEqual((web.begin(tie), web.end(tie)), (web.end(-tie), web.begin(-tie)))
                begin, end = web.rooms[web.begin(tie)], web.rooms[web.end(tie)]
                self.assertEqual((begin.size % len(lot), end.size % len(lot)), (0, 0))
                for one, other in itertools.product(lot, repeat=2):
                    self.assertEqual(web.carried(-tie, web.carried(tie, one)), one)
                    along = times(end, web.carried(tie, one), web.carried(tie, other))
                    self.assertEqual(web.carried(tie, times(begin, one, other)), along)

    def test_the_lot_of_a_tie_gone_back_is_ascending(self):
        web = Web((THREE, THREE), ((0, 1, ((0, 0), (1, 2), (2, 1))),))
        self.assertEqual((web.lot(1), web.lot(-1), web.carried(-1, 1)), ((0, 1, 2), (0, 1, 2), 2))
        self.assertEqual((SHARED.lot(-2), SHARED.carried(-2, 2), SHARED.lot(2)), ((0, 2), 1, (0, 1)))

    def test_beginnings(self):
        for web in WEBS.values():
            for point in range(web.points):
                self.assertEqual(web.beginnings(point), tuple(Reading(web).beginnings(point)))
        self.assertEqual((WIDE.beginnings(2), WIDE.beginnings(3)), ((-4, -3, -2), (-6, 3, 6)))
        self.assertEqual(Web.lone(SIX).beginnings(0), ())

    def test_wrong_points_ties_and_members(self):
        ties = numbers(0, 3, -3, 7)
        for method in (SHARED.begin, SHARED.end, SHARED.lot):
            check_arguments(self, method, (2,), [ties])
            check_arguments(self, method, (-2,), [ties])
        check_arguments(self, SHARED.carried, (1, 3), [ties, numbers(6, -1)])
        check_arguments(self, SHARED.beginnings, (1,), [numbers(2, -1, 3)])
        check_error(self, InvalidNumber(2), DOWN.carried, (1, 2))
        check_error(self, InvalidNumber(4), DOWN.carried, (-1, 4))
        check_error(self, InvalidOperation(""), DOWN.carried, (-1, 3))
        check_error(self, InvalidNumber(1), Web.lone(TWO).begin, (1,))
        check_error(self, InvalidNumber(0), Web.lone(TWO).lot, (0,))

    def test_equality(self):
        self.assertTrue(Web((Room(2, ((1, 0),)), Room(3, ((2, 0, 1),))), ((0, 1, ((0, 0),)),)) == FREE23)
        self.assertFalse(Web((TWO, THREE), (TIE,)) != FREE23)
        unlike = [web for name, web in WEBS.items() if name != "free"] + [
            Web((THREE, TWO), (TIE,)), Web((TWO, THREE), ((1, 0, IDLE),)), Web((TWO, THREE), (TIE, TIE)),
            Web((Room(3, ((1, 0, 2),)), THREE), (TIE,)), TWO, (TWO, THREE), *[value for value in JUDGED if value is not FREE23],
        ]
        for value in unlike:
            self.assertIs(FREE23 == value, False)
            self.assertIs(FREE23 != value, True)
        self.assertFalse(Web((TWO, TWO), ((0, 1, ((0, 0), (1, 1))),)) == FLAT)

    def test_text_and_iteration(self):
        self.assertEqual((str(WIDE), str(Web.lone(TWO))), ("web of 5 rooms, 6 ties", "web of 1 rooms, 0 ties"))
        for web in (FREE23, Web.lone(TWO)):
            with self.assertRaises(TypeError):
                iter(web)

    def test_five_rooms_and_six_ties(self):
        chain = tuple((point, point + 1, IDLE) for point in range(4))
        self.assertEqual(Web((TWO,) * 5, chain).points, 5)
        self.assertEqual(Web((TWO,) * 5, chain + (TIE, TIE)).size, 6)
        for rooms, ties in (((TWO,) * 6, chain + ((4, 5, IDLE),)), ((TWO,) * 5, chain + (TIE,) * 3), ((), ()), ((TWO,), ((0, 0, IDLE),) * 7)):
            check_error(self, InvalidWeb(""), Web, (rooms, ties))
            check_error(self, InvalidWeb(""), web_fault, (rooms, ties))

    def test_wrong_rooms_and_ties(self):
        check_arguments(self, Web, ((TWO, TWO), (TIE,)), [wrong_rooms(), wrong_ties()])
        check_arguments(self, web_fault, ((TWO, TWO), (TIE,)), [wrong_rooms(), wrong_ties()])


class Faults(unittest.TestCase):
    def check(self, rooms, ties, fault):
        self.assertEqual(web_fault(rooms, ties), fault)
        if fault is None:
            self.assertEqual(Web(rooms, ties).ties, ties)
        else:
            check_error(self, Refused(fault), Web, (rooms, ties))

    def test_members(self):
        for pairs in (((0, 0), (2, 1)), ((0, 0), (1, 3)), ((0, 0), (1, 1), (2, 2)), ((5, 0),), ((0, 0), (1, 10 ** 60 - 1)), ((0, 10 ** 59),)):
            self.check((TWO, THREE), ((0, 1, pairs),), ("members", 1))
        self.check((TWO, THREE), ((1, 0, ((0, 0), (2, 1), (3, 0))),), ("members", 1))
        self.check((TWO, THREE), ((1, 0, ((0, 0), (1, 2))),), ("members", 1))

    def test_pairs(self):
        for pairs in (
            (), ((1, 1),), ((0, 1),), ((1, 0),), ((0, 0), (1, 2)), ((0, 0), (1, 3)), ((0, 0), (2, 1)), ((0, 0), (0, 1), (1, 0), (1, 1)),
            ((0, 0), (1, 0)), ((0, 0), (0, 2)), ((0, 0), (1, 1), (2, 2)), ((0, 0), (2, 2), (3, 3)),
        ):
            self.check((FOUR, FOUR), ((0, 1, pairs),), ("pairs", 1))
        for pairs in (IDLE, ((0, 0), (2, 2)), ((0, 0), (1, 1), (2, 2), (3, 3)), ((0, 0), (1, 3), (2, 2), (3, 1))):
            self.check((FOUR, FOUR), ((0, 1, pairs),), None)

    def test_all_pairs_of_small_rooms(self):
        for one, other in ((TWO, FOUR), (HALVES, TWO), (THREE, THREE)):
            choices = list(itertools.product(range(one.size), range(other.size)))
            for many in range(4):
                for some in itertools.combinations(choices, many):
                    fault = None if is_pairs(one, other, some) else ("pairs", 1)
                    self.check((one, other), ((0, 1, some),), fault)

    def test_the_first_fault_is_told(self):
        members, pairs = (0, 1, ((0, 0), (9, 0))), (0, 1, ((1, 1),))
        self.check((TWO, TWO), (TIE, pairs, members), ("pairs", 2))
        self.check((TWO, TWO), (members, pairs), ("members", 1))
        self.check((TWO, TWO), (TIE, TIE, members, pairs), ("members", 3))
        self.check((TWO, TWO), ((0, 1, ((1, 1), (9, 0))),), ("members", 1))
        self.check((TWO, TWO, TWO), (TIE, pairs), ("pairs", 2))
        self.check((TWO, TWO, TWO), (TIE, members), ("members", 2))

    def test_apart(self):
        self.check((TWO, TWO), (), ("apart",))
        self.check((TWO, TWO), ((0, 0, IDLE), (1, 1, IDLE)), ("apart",))
        self.check((TWO,) * 4, (TIE, (2, 3, IDLE), (1, 0, IDLE)), ("apart",))
        self.check((TWO,) * 4, ((2, 3, IDLE), (3, 1, IDLE), (1, 2, IDLE)), ("apart",))
        self.check((TWO,) * 4, ((3, 2, IDLE), TIE, (1, 3, IDLE)), None)
        self.check((TWO,), (), None)

    def test_all_ways_to_tie_four_points(self):
        edges = [(u, v, IDLE) for u, v in itertools.combinations(range(4), 2)]
        for many in range(7):
            for ties in itertools.combinations(edges, many):
                fault = None if hang_together(4, ties) else ("apart",)
                self.check((Room(1, ()),) * 4, ties[::-1], fault)

    def test_faults_stand_behind_wrong_rooms_and_ties(self):
        pairs = (0, 1, ((1, 1),))
        for rooms, ties in (((TWO, TWO), (pairs, None)), ((TWO, None), (pairs,)), ((TWO, TWO), (pairs,) * 7), ((TWO,) * 6, (pairs,))):
            check_error(self, InvalidWeb(""), Web, (rooms, ties))
            check_error(self, InvalidWeb(""), web_fault, (rooms, ties))


class Told(unittest.TestCase):
    def test_fraction(self):
        for web in WEBS.values():
            wanted = sum(Fraction(1, room.size) for room in web.rooms) - sum(Fraction(1, len(pairs)) for _, _, pairs in web.ties)
            self.assertEqual(fraction(web), (wanted.numerator, wanted.denominator))
        self.assertEqual((fraction(LINE), fraction(Web.lone(Room(1, ())))), ((0, 1), (1, 1)))
        self.assertEqual(fraction(Web((WHOLE, SIX), (TIE,) * 6)), (-139, 24))

    def test_a_fraction_is_at_most_1_and_at_most_0_if_all_ties_are_needed(self):
        for web in WEBS.values():
            top, bottom = fraction(web)
            self.assertTrue(top <= bottom and bottom > 0)
            if web.size and len(needed_ties(web)) == web.size:
                self.assertLessEqual(top, 0)

    def test_least_tree(self):
        for many in range(1, 5):
            for order in itertools.permutations([(0, 1), (1, 2), (2, 0), (0, 0), (3, 1)], many):
                ties = tuple((u, v, IDLE) for u, v in order)
                if not hang_together(4, ties):
                    continue
                taken = [at for at in range(len(ties)) if Told.parts(ties[:at]) != Told.parts(ties[:at + 1])]
                self.assertEqual(least_tree(Web((TWO,) * 4, ties)), tuple(at + 1 for at in taken))
        self.assertEqual((least_tree(WIDE), least_tree(STAR), least_tree(DEEP), least_tree(TURNS)), ((1, 2, 3, 4), (1, 2), (1,), ()))
        for web in WEBS.values():
            self.assertEqual(len(least_tree(web)), web.points - 1)

    @staticmethod
    def parts(ties):
        """How many parts four points fall into."""
        marks = list(range(4))
        for u, v, _ in ties:
            marks = [marks[u] if mark == marks[v] else mark for mark in marks]
        return len(set(marks))

    def test_a_late_tie_that_joins_two_parts_is_taken(self):
        web = Web((TWO,) * 5, ((3, 4, IDLE), (4, 3, IDLE), (0, 1, IDLE), (1, 2, IDLE), (2, 0, IDLE), (2, 4, IDLE)))
        self.assertEqual(least_tree(web), (1, 3, 4, 6))

    def test_needed_ties(self):
        half = Web((FOUR, HALVES), ((0, 1, ((0, 0), (2, 1))),))
        whole = Web((TWO, TWO), ((0, 1, ((0, 0), (1, 1))), (1, 0, IDLE), (0, 0, ((0, 0), (1, 1)))))
        self.assertEqual((needed_ties(half), needed_ties(whole), needed_ties(DOWN)), ((1,), (2, 3), ()))
        turned = Web((FOUR, TWO), ((0, 1, ((0, 0), (2, 1))), (1, 0, ((0, 0), (1, 2)))))
        self.assertEqual(needed_ties(turned), ())
        self.assertEqual((needed_ties(WIDE), needed_ties(LINE), needed_ties(SHARED)), ((2, 3, 6), (1,), (1, 2)))
        idle = Web((Room(1, ()), SIX), (TIE,))
        self.assertEqual(needed_ties(idle), ())
        self.assertEqual((needed_ties(Web.lone(TWO)), needed_ties(FREE23)), ((), (1,)))

    def test_what_is_no_web(self):
        for function in (fraction, least_tree, needed_ties):
            check_arguments(self, function, (FREE23,), [webs_wrong()])

    def test_what_is_not_true(self):
        wide = Web((FOUR, FOUR), (TIE,)), Web((FOUR, FOUR), ((0, 1, ((0, 0), (2, 2))),))
        self.assertNotEqual(fraction(wide[0]), fraction(wide[1]))
        self.assertEqual((least_tree(DOWN), needed_ties(DOWN)), ((1,), ()))
        self.assertEqual((EIGHT.size, DEEP.lot(-1)), (8, (0, 1, 2, 3)))


if __name__ == "__main__":
    unittest.main()
