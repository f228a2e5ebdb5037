"""Stage 18: sums of words, and renamings that keep the web, [18.1] to [18.6]."""

import itertools
import math
import unittest

from treerooms.base.leading import renamings
from treerooms.base.rooms import Room
from treerooms.counts.sums import are_sums_equal, renaming_led, sum_columns, sum_divisors, sum_of, sum_order
from treerooms.errors import InvalidOperation, InvalidRoad, InvalidWeb
from treerooms.kin.changes import all_needed, begun_at
from treerooms.kin.slides import renamed, slid, tie_turned
from treerooms.trees.alike import are_alike
from treerooms.trees.lines import length_of, order_of
from treerooms.webs.plain import is_nothing
from treerooms.webs.webs import Web
from treerooms.worlds.own import own_web

from tests.makers import ALONE, ODD_TWO, ROUND_SIX, contrary_of, disguised, product_of, some_webs, words_of
from tests.second import any_plain, joined, reading_of, turned
from tests.support import (
    DEEP, DOWN, EIGHT, FLAT, FOUR, FREE23, HALVES, IDLE, JUNK, LINE, LOOP, NO_WEBS, SHARED, SIX, STAR, THREE, TURNS, TWELVE, TWO, WEBS, WHOLE,
    chances, check_arguments, check_error, line_road, operations, roads_wrong, webs_wrong,
)
from tests.test_slides import all_names, renamed_web, some_names, some_step

MANY = list(WEBS.values()) + some_webs(1, 24, 4, 3)


def least_tree_of(web):
    """The ties that close no round with those ahead of them."""
    parts, taken = [{point} for point in range(web.points)], []
    for number, (begin, end, _) in enumerate(web.ties, start=1):
        one = next(part for part in parts if begin in part)
        other = next(part for part in parts if end in part)
        if one is not other:
            parts = [part for part in parts if part is not one and part is not other] + [one | other]
            taken.append(number)
    return taken


def columns_of(web):
    """The columns as [18.1] tells them."""
    found = [("room", point, member) for point, room in enumerate(web.rooms) for member in range(1, room.size)]
    return found + [("tie", tie) for tie in range(1, web.size + 1) if tie not in least_tree_of(web)]


def row_of(web, word):
    """The row of a word, as it stands."""
    columns = columns_of(web)
    stops = reading_of(web).stops(0, word)
    row = [0] * len(columns)
    for at, entry in enumerate(word):
        if at % 2 == 0 and entry != 0:
            row[columns.index(("room", stops[at // 2], entry))] += 1
        if at % 2 == 1 and ("tie", abs(entry)) in columns:
            row[columns.index(("tie", abs(entry)))] += 1 if entry > 0 else -1
    return row


def rules_of(web):
    """The rules of [18.2], all of them."""
    columns = columns_of(web)
    at = {column: number for number, column in enumerate(columns)}
    rules = []

    def rule(*parts):
        row = [0] * len(columns)
        for many, point, member in parts:
            if member:
                row[at["room", point, member]] += many
        rules.append(row)

    for point, room in enumerate(web.rooms):
        for one, other in itertools.product(range(room.size), repeat=2):
            rule((1, point, one), (1, point, other), (-1, point, reading_of(web).tables[point][one][other]))
    for begin, end, pairs in web.ties:
        for a, b in pairs:
            rule((1, begin, a), (-1, end, b))
    return rules


def in_steps(rows):
    """The table in steps of [18.3], by Euclid's way from the left."""
    rows, done, column = [row for row in rows if any(row)], [], 0
    while rows:
        while True:
            some = sorted((row for row in rows if row[column]), key=lambda row: abs(row[column]))
            if len(some) < 2:
                break
            first = some[0]
            rows = [first] + [
                row if row is first else [one - row[column] // first[column] * two for one, two in zip(row, first)] for row in rows
            ]
            rows = [list(row) for row in {tuple(row) for row in rows} if any(row)]
        if some:
            lead = some[0]
            rows = [row for row in rows if row is not lead]
            done.append([-one for one in lead] if lead[column] < 0 else lead)
        column += 1
    for at, row in enumerate(done):
        column = next(place for place, one in enumerate(row) if one)
        for above in range(at):
            times = done[above][column] // row[column]
            done[above] = [one - times * two for one, two in zip(done[above], row)]
    return done


TABLES = {}


def table_of(web):
    if id(web) not in TABLES:
        TABLES[id(web)] = (web, in_steps(rules_of(web)))
    return TABLES[id(web)][1]


def least_row(web, row):
    """The told row of [18.3]."""
    row = list(row)
    for step in table_of(web):
        column = next(place for place, one in enumerate(step) if one)
        times = row[column] // step[column]
        row = [one - times * two for one, two in zip(row, step)]
    return tuple(row)


class Sums(unittest.TestCase):
    def test_columns(self):
        for web in MANY + [Web.lone(WHOLE), DEEP]:
            self.assertEqual(sum_columns(web), tuple(columns_of(web)))

    def test_least_rows(self):
        chance = chances(2)
        for web in MANY + [Web.lone(EIGHT), Web.lone(TWELVE), Web((EIGHT, HALVES), ((0, 1, IDLE), (1, 1, ((0, 0), (1, 2)))))]:
            table = table_of(web)
            leads = [next(place for place, one in enumerate(row) if one) for row in table]
            self.assertEqual(leads, [at for at, column in enumerate(columns_of(web)) if column[0] == "room"])
            for word in words_of(chance, web, 8, 8) + [(0,), (web.rooms[0].size - 1,)]:
                told = sum_of(web, word)
                self.assertEqual(told, least_row(web, row_of(web, word)))
                self.assertTrue(all(type(one) is int for one in told))

    def test_equal_sums(self):
        chance = chances(3)
        answers = []
        for web in MANY:
            words = words_of(chance, web, 8, 6)
            for one, other in itertools.combinations(words, 2):
                wanted = not any(least_row(web, [a - b for a, b in zip(row_of(web, one), row_of(web, other))]))
                answers.append(wanted)
                self.assertIs(are_sums_equal(web, one, other), wanted)
                self.assertIs(sum_of(web, one) == sum_of(web, other), wanted)
        self.assertGreater(min(answers.count(True), answers.count(False)), 60)

    def test_what_has_equal_sums(self):
        chance = chances(4)
        for web in MANY + [DEEP, Web((WHOLE, EIGHT), ((0, 1, IDLE), (1, 0, ((0, 0), (1, 1)))))]:
            words = words_of(chance, web, 6, 4)
            for one, other in zip(words, words[1:]):
                self.assertIs(are_sums_equal(web, one, disguised(chance, web, one)), True)
                self.assertIs(are_sums_equal(web, one, any_plain(web, one)), True)
                self.assertEqual(sum_of(web, product_of(web, one, other)), sum_of(web, product_of(web, other, one)))
                turned_one = turned(web, one, other)
                if len(turned_one) <= 121:
                    self.assertIs(are_sums_equal(web, one, turned_one), True)
                # The row of a product is the sum of both rows, up to rules.
                total = [a + b for a, b in zip(row_of(web, one), row_of(web, other))]
                if web.points < 3 and max(room.size for room in web.rooms) < 9:
                    self.assertEqual(sum_of(web, product_of(web, one, other)), least_row(web, total))

    def test_words_that_change_places(self):
        # Equal sums are just what is left when words are let change places: products of words, with all commutators struck out.
        for web in (FREE23, FLAT, LOOP, STAR, TURNS):
            words = words_of(chances(5), web, 5, 3)
            for row in itertools.permutations(words[:4]):
                self.assertIs(are_sums_equal(web, joined(web, *row), joined(web, *words[:4])), True)

    def test_divisors(self):
        for web in MANY + [Web.lone(room) for room in (EIGHT, TWELVE, WHOLE, HALVES, ROUND_SIX, ALONE)] + [
            Web((HALVES, FOUR), ((0, 1, IDLE),)), Web((HALVES, HALVES, SIX), ((0, 1, IDLE), (1, 2, IDLE), (0, 0, IDLE))),
        ]:
            told = sum_divisors(web)
            outside = sum(column[0] == "tie" for column in columns_of(web))
            finite = told[:len(told) - outside]
            self.assertEqual(told[len(finite):], (0,) * outside)
            self.assertTrue(all(one > 1 for one in finite) and all(other % one == 0 for one, other in zip(finite, finite[1:])))
            if max(room.size for room in web.rooms) > 12:
                continue
            # As many sums have a divisor of each number as the told integers let have.
            table = table_of(web)
            leads = [next(one for one in row if one) for row in table]
            self.assertEqual(math.prod(finite), math.prod(leads))
            if math.prod(leads) <= 400:
                sums = list(itertools.product(*[range(lead) for lead in leads]))
                for many in range(1, 13):
                    count = sum(1 for row in sums if not any(least_row(web, [many * one for one in row] + [0] * outside)))
                    self.assertEqual(count, math.prod(math.gcd(many, one) for one in finite))
        self.assertEqual([sum_divisors(Web.lone(room)) for room in (WHOLE, TWELVE, EIGHT, HALVES)], [(2,), (3,), (2, 2), (2, 2)])

    def test_orders(self):
        chance = chances(6)
        seen = set()
        for web in MANY + [Web((SIX, FOUR, THREE), ((0, 1, IDLE), (1, 2, IDLE)))]:
            for word in words_of(chance, web, 8, 6):
                row, order = row_of(web, word), sum_order(web, word)
                seen.add(order)
                if any(least_row(web, [60 * one for one in row])):
                    self.assertIsNone(order)
                    self.assertTrue(any(one for one, column in zip(row, columns_of(web)) if column[0] == "tie"))
                else:
                    self.assertEqual(order, next(many for many in range(1, 61) if not any(least_row(web, [many * one for one in row]))))
        self.assertTrue({None, 1, 2, 3, 4, 6, 12} <= seen, seen)

    def test_great_webs(self):
        full = tuple((member, member) for member in range(24))
        large = Web((WHOLE,) * 5, ((0, 1, IDLE), (1, 2, IDLE), (2, 3, IDLE), (3, 4, IDLE), (4, 0, IDLE), (0, 0, full)))
        self.assertEqual((len(sum_columns(large)), sum_divisors(large)), (117, (2,) * 5 + (0, 0)))
        self.assertEqual(sum_divisors(Web((WHOLE,), ((0, 0, full),) * 6)), (2, 0, 0, 0, 0, 0, 0))
        word = (23,) + (6, 5) * 60
        self.assertEqual(sum_of(large, word)[-2:], (0, 60))
        eights = Room(6, ((1, 0, 2, 3, 4, 5), (0, 1, 3, 2, 4, 5), (0, 1, 2, 3, 5, 4)))
        self.assertEqual(sum_divisors(Web((eights,) * 5, tuple((0, at, IDLE) for at in range(1, 5)))), (2,) * 15)
        mixed = Web((FOUR, HALVES, ROUND_SIX, THREE, Room.round(5)), tuple((0, at, IDLE) for at in range(1, 5)))
        self.assertEqual(sum_divisors(mixed), (2, 2, 6, 60))
        self.assertEqual(sum_order(mixed, (1, 1, 1, -1, 0, 2, 1, -2, 0, 3, 1, -3, 0, 4, 1, -4, 0)), 60)
        own = own_web(FREE23, ((1,), turned(FREE23, (1,), (0, 1, 1, -1, 0)), (0, 1, 1, -1, 1, 1, 2, -1, 0)))
        self.assertEqual(sum_of(own, (0,)), (0,) * len(sum_columns(own)))
        words = tuple((0,) + tuple(entry for step in range(50) for entry in (1 + ((step * step + at) % 7 > 2), 0)) for at in range(5))
        own = own_web(Web((ALONE,), ((0, 0, IDLE),) * 2), words)
        self.assertEqual(sum_divisors(own), (0,) * (own.size - own.points + 1))

    def test_wide_own_webs(self):
        web = Web((FOUR,), ((0, 0, ((0, 0), (2, 2))),))
        own = own_web(web, ((2,), (0,) + (1, 1) * 50))
        self.assertGreater(own.points, 40)
        self.assertEqual(sum_divisors(own), (2, 0))
        roads = [(0, 1, one, -1, 1, 1, two, -1, 1, 1, three, -1, 0) for one, two, three in itertools.product((1, 2), repeat=3)]
        apart = own_web(FREE23, tuple(turned(FREE23, (1,), road) for road in roads[:5]))
        self.assertEqual(sum_divisors(apart), (2,) * 5)

    def test_what_goes_along(self):
        chance = chances(7)
        for web in MANY:
            left = all_needed(web)
            self.assertEqual(sum_divisors(left.web), sum_divisors(web))
            if left.web.size:
                step = some_step(chance, left.web)
                other = slid(left.web, *step[1:]) if step[0] == "slide" else tie_turned(left.web, *step[1:])
                self.assertEqual(sum_divisors(other), sum_divisors(web))
            self.assertEqual(sum_divisors(renamed(web, *some_names(chance, web))), sum_divisors(web))
            change = begun_at(web, web.points - 1)
            self.assertEqual(sum_divisors(change.web), sum_divisors(web))
            words = words_of(chance, web, 5, 4)
            for one, other in zip(words, words[1:]):
                self.assertEqual(sum_order(left.web, left.there(one)), sum_order(web, one))
                self.assertIs(are_sums_equal(left.web, left.there(one), left.there(other)), are_sums_equal(web, one, other))
                self.assertEqual(sum_order(change.web, any_plain(change.web, change.there(one))), sum_order(web, one))

    def test_errors(self):
        for value in NO_WEBS:
            check_error(self, InvalidWeb(""), sum_columns, (value,))
            check_error(self, InvalidWeb(""), sum_divisors, (value,))
        bad = roads_wrong((2,), (0, 1, 0), (True,), [0], (0, 1, 3, -1, 0), line_road(FREE23, 62))
        for function in (sum_of, sum_order):
            check_arguments(self, function, (FREE23, (1, 1, 2, -1, 0)), [webs_wrong(), bad])
            self.assertIsNotNone(function(FREE23, line_road(FREE23, 60)))
        check_arguments(self, are_sums_equal, (FREE23, (1, 1, 2, -1, 0), (0,)), [webs_wrong(), bad, bad])


class Renamings(unittest.TestCase):
    WEBS = (
        FREE23, FLAT, LOOP, TURNS, STAR, LINE, SHARED, Web((SIX,), ((0, 0, IDLE),)), Web((HALVES,), ((0, 0, IDLE), (0, 0, IDLE))),
        Web((TWO, THREE, THREE), ((0, 1, IDLE), (0, 2, IDLE))), Web((THREE, TWO, ODD_TWO), ((0, 1, IDLE), (2, 0, IDLE))), Web.lone(SIX),
        Web((FOUR, TWO, TWO), ((0, 1, IDLE), (2, 0, IDLE), (1, 2, ((0, 0), (1, 1))))),
    )

    def test_words_that_are_led(self):
        chance = chances(8)
        many = 0
        for web in self.WEBS:
            for names in list(all_names(web, web))[:40]:
                if names[0][0] != 0:
                    check_error(self, InvalidOperation(""), renaming_led, (web, names, (0,)))
                    continue
                many += 1
                for word, other in zip(words_of(chance, web, 3, 5), words_of(chance, web, 3, 5)):
                    led, goal = renaming_led(web, names, word), renaming_led(web, names, other)
                    self.assertEqual(led, self.led(web, names, word))
                    self.assertEqual(any_plain(web, renaming_led(web, names, disguised(chance, web, word))), any_plain(web, led))
                    self.assertEqual(any_plain(web, renaming_led(web, names, product_of(web, word, other))), product_of(web, led, goal))
                    self.assertEqual(any_plain(web, renaming_led(web, names, contrary_of(web, word))), contrary_of(web, led))
                    self.assertEqual((order_of(web, led), length_of(web, led)), (order_of(web, word), length_of(web, word)))
                    self.assertIs(is_nothing(web, led), is_nothing(web, word))
        self.assertGreater(many, 60)

    def led(self, web, names, word):
        points, rows, ties = names
        stops = reading_of(web).stops(0, word)
        return tuple(
            rows[stops[at // 2]][entry] if at % 2 == 0 else ties[abs(entry) - 1] * (1 if entry > 0 else -1) for at, entry in enumerate(word)
        )

    def test_exchanged_points(self):
        web = Web((TWO, THREE, THREE), ((0, 1, IDLE), (0, 2, IDLE)))
        names = ((0, 2, 1), ((0, 1), (0, 1, 2), (0, 2, 1)), (2, 1))
        self.assertEqual(renaming_led(web, names, (1, 1, 1, -1, 0, 2, 1, -2, 1)), (1, 2, 1, -2, 0, 1, 2, -1, 1))
        # A word is led as it stands, not made plain.
        self.assertEqual(renaming_led(web, names, (1, 1, 0, -1, 0)), (1, 2, 0, -2, 0))
        self.assertEqual(renaming_led(LINE, ((0,), ((0,),), (-1,)), (0, 1, 0, -1, 0)), (0, -1, 0, 1, 0))

    def test_names_that_do_not_keep_the_web(self):
        good = ((0, 1), ((0, 1), (0, 2, 1)), (1,))
        bad = (
            ((1, 0), ((0, 1), (0, 2, 1)), (1,)), ((0, 1), ((0, 1), (0, 2, 1)), (-1,)), ((0, 1), ((0, 1), (0, 1, 1)), (1,)),
            ((0, 1), ((0, 1),), (1,)), ((0, 1), ((0, 1), (0, 2, 1)), ()), ((0, 1), ((0, 1), (0, 2, 1)), (1, 1)), ((0, 1), ((0, 1), (0, 2, 1)), (True,)),
            ((0, True), ((0, 1), (0, 2, 1)), (1,)), (False, 1), ((0, 1), ((0, 1), (0, True, 2)), (1,)), list(good), ([0, 1],) + good[1:], good + (1,),
            good[:2], ("names",) + good, ((0, 10 ** 60),) + good[1:], (),
        )
        check_arguments(self, renaming_led, (FREE23, good, (1, 1, 1, -1, 0)), [
            webs_wrong(), operations(*bad), roads_wrong((2,), (0, 1, 0), line_road(FREE23, 62)),
        ])
        for value in JUNK:
            check_error(self, InvalidOperation(""), renaming_led, (FLAT, value, None))
        # Both rooms of FLAT are alike, but the point 0 stays.
        check_error(self, InvalidOperation(""), renaming_led, (FLAT, ((1, 0), ((0, 1), (0, 1)), (-1,)), (0,)))
        check_error(self, InvalidRoad(""), renaming_led, (FREE23, good, (0, 1, 0)))
        # A renaming of the room that the tie does not go along with.
        web = Web((HALVES, TWO), ((0, 1, ((0, 0), (1, 1))),))
        rows = renamings(HALVES, HALVES)
        kept = [row for row in rows if row[1] == 1]
        for row in rows:
            names = ((0, 1), (row, (0, 1)), (1,))
            if row in kept:
                self.assertEqual(renaming_led(web, names, (2,)), (row[2],))
            else:
                check_error(self, InvalidOperation(""), renaming_led, (web, names, (2,)))
        self.assertEqual(renamed_web(web, web.rooms, (0, 1), (kept[-1], (0, 1)), (1,)), web)


class NotTrue(unittest.TestCase):
    def test_what_is_not_true(self):
        # Words with equal sums that are not alike.
        one, other = (1, 1, 1, -1, 1, 1, 2, -1, 0), (0,)
        self.assertEqual((are_sums_equal(FREE23, one, other), are_alike(FREE23, one, other)), (True, False))
        # A word with the sum of (0,) that is long.
        self.assertEqual((sum_of(FREE23, one), order_of(FREE23, one)), ((0, 0, 0), None))
        # The sums of a web are not those of its rooms, side by side.
        self.assertEqual((sum_divisors(LOOP), sum_divisors(Web.lone(TWO))), ((2, 0), (2,)))
        self.assertEqual((sum_divisors(DOWN), sum_divisors(Web.lone(TWO)), sum_divisors(Web.lone(FOUR))), ((4,), (2,), (4,)))
        self.assertEqual(sum_divisors(TURNS), (0,))


if __name__ == "__main__":
    unittest.main()
