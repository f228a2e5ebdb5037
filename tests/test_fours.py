"""Stage 19: tables of four integers, [19.1] to [19.6]."""

import itertools
import unittest

from treerooms.base.rooms import Room
from treerooms.errors import InvalidRoad, InvalidTable
from treerooms.tables.fours import (
    four_six, is_table, is_tables_between, table_of_word, table_order, table_product, tables_between, word_of_table,
)
from treerooms.trees.alike import are_alike
from treerooms.trees.lines import order_of
from treerooms.trees.tree import is_still
from treerooms.webs.plain import is_plain, plain, plain_words
from treerooms.webs.webs import Web, fraction

from tests.makers import contrary_of, disguised, product_of, words_of
from tests.second import any_plain, joined
from tests.support import FREE23, JUDGED, JUNK, TWO, chances, check_arguments, check_error, check_judged, line_road, roads_wrong

WEB = four_six()
UNIT, OPPOSITE = ((1, 0), (0, 1)), ((-1, 0), (0, -1))
S, U = ((0, -1), (1, 0)), ((0, -1), (1, 1))
UP, DOWN = ((1, 1), (0, 1)), ((1, 0), (-1, 1))
NO_TABLES = JUNK + (
    ((1, 0), (0, 0)), ((1, 1), (1, 1)), ((0, 1), (1, 0)), ((1, 0, 0), (0, 1, 0)), ((1, 0), (0, 1), (0, 0)), [(1, 0), (0, 1)], ([1, 0], (0, 1)),
    ((1, 0), [0, 1]), ((True, 0), (0, 1)), ((1, False), (0, 1)), ((1, 0), (0, True)), ((1, 0),), (1, 0, 0, 1), ((1, None), (0, 1)),
    (("1", 0), (0, 1)), ((2, 0), (0, 1)), ((1, 0), (0, -1)), TWO, FREE23, ((1, 0), ()), ((), ()),
)
LARGE = (((1, 61), (0, 1)), ((1, 0), (-61, 1)), ((61, 60), (1, 1)), ((-61, 60), (1, -1)), ((1, 10 ** 59), (0, 1)), ((1, 0), (10 ** 99, 1)))


def times(one, other):
    return tuple(tuple(sum(one[i][k] * other[k][j] for k in (0, 1)) for j in (0, 1)) for i in (0, 1))


def undo(table):
    (a, b), (c, d) = table
    return ((d, -b), (-c, a))


def powers(table, many):
    made = UNIT
    for _ in range(many):
        made = times(made, table)
    return made


def table_by_stays(word):
    made = UNIT
    for at in range(0, len(word), 2):
        made = times(made, powers((S, U)[at // 2 % 2], word[at]))
    return made


def tables_up_to(most):
    """All tables with entries of at most this size."""
    numbers = range(-most, most + 1)
    found = []
    for a, b, c in itertools.product(numbers, repeat=3):
        if a:
            if (1 + b * c) % a == 0 and abs((1 + b * c) // a) <= most:
                found.append(((a, b), (c, (1 + b * c) // a)))
        elif b * c == -1:
            found.extend(((a, b), (c, d)) for d in numbers)
    return found


def classes_up_to(most):
    """For each table of this size one of its class, found by turning with S, UP and its contrary within this size."""
    tables = tables_up_to(most)
    marks = {table: table for table in tables}

    def head(table):
        while marks[table] != table:
            marks[table] = marks[marks[table]]
            table = marks[table]
        return table

    for table in tables:
        for by in (S, UP):
            goal = times(times(by, table), undo(by))
            if goal in marks:
                one, other = sorted((head(table), head(goal)))
                marks[other] = one
    return {table: head(table) for table in tables}


def wrong_tables(*values):
    return [(value, InvalidTable("")) for value in values + NO_TABLES + LARGE]


class Tables(unittest.TestCase):
    def test_the_web(self):
        self.assertEqual(WEB, Web((Room.round(4), Room.round(6)), ((0, 1, ((0, 0), (2, 3))),)))
        self.assertEqual((fraction(WEB), four_six() == four_six()), ((-1, 12), True))
        self.assertEqual((powers(S, 2), powers(U, 3), powers(S, 4), powers(U, 6)), (OPPOSITE, OPPOSITE, UNIT, UNIT))
        self.assertEqual([table_of_word((member,)) for member in range(4)], [powers(S, member) for member in range(4)])
        self.assertEqual([table_of_word((0, 1, member, -1, 0)) for member in range(6)], [powers(U, member) for member in range(6)])

    def test_tables_of_words(self):
        chance = chances(1)
        for word in words_of(chance, WEB, 60, 60) + [line_road(WEB, 60)]:
            if len(word) <= 121:
                self.assertEqual(table_of_word(word), table_by_stays(word))
                other = disguised(chance, WEB, word)
                if len(other) <= 121:
                    self.assertEqual(table_of_word(other), table_of_word(word))
        for one, other in zip(words_of(chance, WEB, 40, 20), words_of(chance, WEB, 40, 20)):
            self.assertEqual(table_of_word(product_of(WEB, one, other)), times(table_of_word(one), table_of_word(other)))
            self.assertEqual(table_of_word(contrary_of(WEB, one)), undo(table_of_word(one)))
        # Integers of any length.
        self.assertGreater(table_of_word((0, 1, 1) + (-1, 1, 1, 1, -1, 1, 1, 5) * 14 + (-1, 0))[0][0] ** 2, 3600)

    def test_one_to_one(self):
        seen = {}
        for ties in (0, 2, 4):
            for word in plain_words(WEB, ties):
                table = table_of_word(word)
                self.assertNotIn(table, seen)
                seen[table] = word
                if all(abs(one) <= 60 for row in table for one in row):
                    self.assertEqual(word_of_table(table), word)
        self.assertGreater(len(seen), 50)

    def test_words_of_tables(self):
        longest = 0
        tables = tables_up_to(9)
        tables += [table for table in tables_up_to(60)[::23]]
        for table in tables:
            word = word_of_table(table)
            self.assertEqual(table_by_stays(word), table)
            self.assertIs(is_plain(WEB, 0, word), True)
            longest = max(longest, len(word) // 2)
        self.assertLessEqual(longest, 130)

    def test_longest_words(self):
        # Of all tables the last ones on each side, and those with the longest words.
        found = {}
        for sign in (1, -1):
            for many in (59, 60):
                for table in (((1, sign * many), (0, 1)), ((1, 0), (sign * many, 1)), ((-1, sign * many), (0, -1)), ((-1, 0), (sign * many, -1))):
                    found[table] = len(word_of_table(table)) // 2
                    self.assertEqual(table_by_stays(word_of_table(table)), table)
        self.assertLessEqual(max(found.values()), 130)
        self.assertGreaterEqual(max(found.values()), 120)
        for a, c in itertools.product((60, 59, -60, -59), repeat=2):
            for b, d in itertools.product(range(-60, 61), repeat=2):
                if a * d - b * c == 1:
                    word = word_of_table(((a, b), (c, d)))
                    self.assertEqual(table_by_stays(word), ((a, b), (c, d)))
                    self.assertLessEqual(len(word) // 2, 130)

    def test_products(self):
        tables = tables_up_to(3)
        for one, other in zip(tables, tables[7:] + tables[:7]):
            self.assertEqual(table_product(one, other), times(one, other))
        self.assertEqual(table_product(((60, 59), (1, 1)), ((60, 1), (59, 1))), ((7081, 119), (119, 2)))

    def test_orders(self):
        chance = chances(2)
        for table in tables_up_to(6) + tables_up_to(60)[::997]:
            wanted = next((many for many in range(1, 13) if powers(table, many) == UNIT), None)
            self.assertEqual(table_order(table), wanted)
            if wanted is not None:
                self.assertIn(wanted, (1, 2, 3, 4, 6))
            self.assertIs(wanted is not None, table in (UNIT, OPPOSITE) or abs(table[0][0] + table[1][1]) < 2)
            word = word_of_table(table)
            if len(word) <= 121:
                self.assertEqual(order_of(WEB, word), wanted)
                self.assertIs(is_still(WEB, word), table in (UNIT, OPPOSITE))
        for word in words_of(chance, WEB, 60, 12):
            table = table_of_word(word)
            if all(abs(one) <= 60 for row in table for one in row):
                self.assertEqual(table_order(table), order_of(WEB, word))


class Between(unittest.TestCase):
    def check_between(self, one, other, wanted):
        found = tables_between(one, other)
        self.assertIs(found is not None, wanted, (one, other))
        if found is not None:
            self.assertIs(is_tables_between(one, other, found), True)
            self.assertEqual(times(found, one), times(other, found))
            self.assertIs(is_table(found), True)
            self.assertEqual(one[0][0] + one[1][1], other[0][0] + other[1][1])

    def test_classes(self):
        # What turning within a greater size leads to one another.
        classes = classes_up_to(14)
        small = [table for table in tables_up_to(4)]
        answers = []
        for one in small[::5]:
            for other in small[::3]:
                if one[0][0] + one[1][1] == other[0][0] + other[1][1]:
                    wanted = classes[one] == classes[other]
                    answers.append(wanted)
                    self.check_between(one, other, wanted)
        self.assertGreater(min(answers.count(True), answers.count(False)), 50)

    def test_words(self):
        chance = chances(3)
        for table in tables_up_to(5)[::7]:
            for other in tables_up_to(5)[::11]:
                one_word, other_word = word_of_table(table), word_of_table(other)
                self.assertIs(tables_between(table, other) is not None, are_alike(WEB, one_word, other_word))
        for word in words_of(chance, WEB, 40, 6):
            by = words_of(chance, WEB, 1, 4)[0]
            one, c = table_by_stays(word), table_by_stays(by)
            other = times(times(c, one), undo(c))
            if all(abs(entry) <= 60 for row in one + other for entry in row):
                self.check_between(one, other, True)
                self.assertIs(is_tables_between(one, other, c), True)

    def test_kinds_of_small_sums(self):
        # [19.5]: up to being led to one another, two with each of the sums 0, 1, -1, and many with 2.
        classes = classes_up_to(12)
        for total, many in ((0, 2), (1, 2), (-1, 2)):
            heads = []
            for table in tables_up_to(6):
                if table[0][0] + table[1][1] == total and not any(tables_between(table, head) for head in heads):
                    heads.append(table)
            self.assertEqual(len(heads), many)
            self.assertEqual(len({classes[table] for table in tables_up_to(6) if sum((table[0][0], table[1][1])) == total}), many)
        ups = [((1, many), (0, 1)) for many in range(-6, 7)]
        for one, other in itertools.product(ups, repeat=2):
            self.check_between(one, other, one == other)

    def test_great_tables(self):
        for one in (((60, 59), (1, 1)), ((1, 60), (0, 1)), ((0, -1), (1, 60)), ((60, -1), (1, 0)), ((-1, -60), (0, -1))):
            for by in (S, U, UP, times(UP, S)):
                other = times(times(by, one), undo(by))
                if all(abs(entry) <= 60 for row in other for entry in row):
                    self.check_between(one, other, True)
            self.check_between(one, one, True)
        self.check_between(((1, 60), (0, 1)), ((1, 59), (0, 1)), False)
        self.check_between(((1, 60), (0, 1)), ((1, 0), (-60, 1)), True)
        self.check_between(((1, 60), (0, 1)), ((1, 0), (60, 1)), False)

    def test_judged_values(self):
        great = powers(UP, 10 ** 4)
        self.assertIs(is_tables_between(UP, UP, great), True)
        self.assertIs(is_tables_between(UP, UP, ((-1, 10 ** 4000), (0, -1))), True)
        self.assertIs(is_table(((1, 10 ** 4000), (0, 1))), True)
        self.assertIs(is_table(((10 ** 99 + 1, 10 ** 99), (1, 1))), True)
        check_judged(self, is_table, (), NO_TABLES + JUDGED + (((10 ** 99, 10 ** 99), (1, 1)),))
        check_judged(self, is_tables_between, (UP, UP), NO_TABLES + JUDGED + (S, ((1, 0), (1, 1)), None))
        check_judged(self, is_tables_between, (UP, DOWN), (UNIT, UP, times(U, U), None))
        check_judged(self, is_tables_between, (UP, undo(UP)), (S, UNIT, U, None))
        self.assertIs(is_table(UNIT) and is_table(OPPOSITE) and is_table(LARGE[0]), True)

    def test_errors(self):
        for function, ahead in ((table_product, 2), (tables_between, 2), (word_of_table, 1), (table_order, 1)):
            check_arguments(self, function, (((60, 59), (1, 1)), UP)[:ahead], [wrong_tables()] * ahead)
        check_arguments(self, is_tables_between, (UP, UP, UP), [wrong_tables(), wrong_tables(), []])
        check_arguments(self, table_of_word, ((1, 1, 2, -1, 3),), [roads_wrong(
            (4,), (0, 1, 6, -1, 0), (0, 1, 0), (0, -1, 0), (True,), (0, 1, True, -1, 0), [0], line_road(WEB, 62), (0, 1), (10 ** 60,),
        )])
        self.assertEqual(table_of_word(line_road(WEB, 60)), UNIT)
        for table in (((1, 60), (0, 1)), ((1, -60), (0, 1)), ((60, 59), (1, 1)), ((-60, 59), (1, -1)), ((1, 0), (-60, 1))):
            self.assertEqual(table_by_stays(word_of_table(table)), table)
        long = word_of_table(((1, 60), (0, 1)))
        self.assertEqual(len(long) // 2, 120)
        # What is told can be too long to be passed.
        check_error(self, InvalidRoad(""), table_of_word, (long,))


class NotTrue(unittest.TestCase):
    def test_what_is_not_true(self):
        # Equal sums, but not led to one another.
        one, other = ((1, 1), (0, 1)), ((1, 2), (0, 1))
        self.assertEqual((one[0][0] + one[1][1], other[0][0] + other[1][1], tables_between(one, other)), (2, 2, None))
        # A table and the one that undoes it.
        self.assertIsNone(tables_between(UP, undo(UP)))
        # A long word with the sum 2.
        self.assertEqual((table_order(UP), UP[0][0] + UP[1][1], order_of(WEB, word_of_table(UP))), (None, 2, None))
        self.assertEqual(plain(WEB, 0, (3, 1, 1, -1, 0)), any_plain(WEB, joined(WEB, (3,), (0, 1, 1, -1, 0))))


if __name__ == "__main__":
    unittest.main()
