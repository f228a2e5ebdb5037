"""Stage 17: plain words by ties, and far powers, [17.1] to [17.5]."""

import itertools
import unittest

from treerooms.counts.forms import far_entry, far_ties, forms_number, places_number, step_table
from treerooms.errors import InvalidNumber, InvalidOperation, InvalidRoad, InvalidWeb, Refused, TooMany
from treerooms.kin.slides import are_kin
from treerooms.trees.lines import kind_of, length_of, on_line
from treerooms.trees.tree import neighbours, way
from treerooms.webs.plain import plain, plain_words
from treerooms.webs.webs import Web
from treerooms.worlds.free import words_number
from treerooms.worlds.own import own_web

from tests.makers import ALONE, some_webs, words_of
from tests.second import any_plain, back, joined, reading_of, turned
from tests.support import (
    DOWN, FLAT, FOUR, FREE23, HALVES, IDLE, LINE, LOOP, NO_WEBS, SIX, THREE, TURNS, TWO, WEBS, WHOLE, chances, check_arguments, check_error,
    line_road, numbers, roads_wrong, webs_wrong,
)

WALK = (1, 1, 1, -1, 0)
MANY = [web for web in WEBS.values()] + some_webs(1, 20, 4, 2)
# Webs whose stays repeat only behind some powers.
SLOW = {
    "sixes": Web((SIX,), ((0, 0, ((0, 0), (3, 3), (4, 4))),)),
    "turns": TURNS,
    "round": Web((HALVES,), ((0, 0, ((0, 0), (1, 2), (2, 3), (3, 1))),)),
    "parts": Web((SIX, SIX), ((0, 1, ((0, 0), (3, 4), (4, 3))), (1, 0, ((0, 0), (1, 2))))),
    "whole": Web((WHOLE,), ((0, 0, tuple((member, member) for member in range(24))),)),
    "fours": Web((FOUR, HALVES), ((0, 1, ((0, 0), (2, 3))), (0, 0, ((0, 0), (2, 2))))),
}


def directed(web):
    return [tie for tie in range(-web.size, web.size + 1) if tie]


def places_by_distance(web, most):
    """The places at each distance from the first one, by neighbours."""
    rows, known = [[()]], {()}
    while len(rows) <= most:
        row = {place for one in rows[-1] for place in neighbours(web, one)} - known
        known |= row
        rows.append(sorted(row))
        if len(row) > 300:
            break
    return rows


def by_rows(web, ties):
    """The sums of [17.2] over all rows of directed ties: for words, and for places."""
    sides = reading_of(web).sides
    words = places = 0
    for row in itertools.product(directed(web), repeat=ties):
        if sides[row[0]][0] != 0:
            continue
        many = web.rooms[0].size // len(sides[row[0]][2])
        for one, other in zip(row, row[1:]):
            begins = sides[other][0] == sides[one][1]
            many *= (web.rooms[sides[other][0]].size // len(sides[other][2]) - (other == -one)) if begins else 0
        places += many
        words += many * web.rooms[0].size if sides[row[-1]][1] == 0 else 0
    return words, places


def long_words(chance, web, many, ties=6):
    """Long words of a web, some of them with a way to their lines."""
    found = []
    for word in words_of(chance, web, 8 * many, ties):
        if length_of(web, word) > 0 and len(found) < many:
            found.append(word)
            by = words_of(chance, web, 1, 3)[0]
            far = turned(web, word, by)
            if len(far) <= 121:
                found.append(far)
    return found


class Numbers(unittest.TestCase):
    def test_step_tables(self):
        for web in MANY:
            sides = reading_of(web).sides
            rows = []
            for one in directed(web):
                row = []
                for other in directed(web):
                    size = web.rooms[sides[other][0]].size // len(sides[other][2])
                    row.append(0 if sides[other][0] != sides[one][1] else size - 1 if other == -one else size)
                rows.append(tuple(row))
            self.assertEqual(step_table(web), tuple(rows))
            # So many stays stand between two ties in the plain roads of two ties.
            for at, one in enumerate(directed(web)):
                begin = sides[one][0]
                for other_at, other in enumerate(directed(web)):
                    if sides[other][0] == sides[one][1]:
                        stays = [
                            stay for stay in range(web.rooms[sides[one][1]].size)
                            if plain(web, begin, (0, one, stay, other, 0)) == (0, one, stay, other, 0)
                        ]
                        self.assertEqual(step_table(web)[at][other_at], len(stays))
        self.assertEqual(step_table(Web.lone(WHOLE)), ())

    def test_listed_words(self):
        for web in MANY:
            for ties in range(5):
                try:
                    listed = list(plain_words(web, ties))
                except TooMany:
                    self.assertGreater(forms_number(web, ties), 2000)
                    continue
                self.assertEqual(forms_number(web, ties), len(listed))
            self.assertEqual(forms_number(web, 0), web.rooms[0].size)

    def test_listed_places(self):
        for web in MANY:
            for ties, row in enumerate(places_by_distance(web, 12)):
                self.assertEqual(places_number(web, ties), len(row))

    def test_rows_of_ties(self):
        for web in MANY:
            for ties in (1, 2, 3, 4):
                if (2 * web.size) ** ties <= 3000:
                    self.assertEqual((forms_number(web, ties), places_number(web, ties)), by_rows(web, ties))

    def test_powers_of_a_table(self):
        # Rows and columns are the directed ties; the table of step numbers, taken often, by squares.
        for web in MANY[:12]:
            if web.size == 0:
                continue
            table, ties, sides = step_table(web), directed(web), reading_of(web).sides
            firsts = [web.rooms[0].size // len(sides[tie][2]) if sides[tie][0] == 0 else 0 for tie in ties]
            for many in (1, 2, 5, 31, 100, 199, 200):
                power = raised(table, many - 1)
                ends = [sum(first * power[at][to] for at, first in enumerate(firsts)) for to in range(len(ties))]
                self.assertEqual(places_number(web, many), sum(ends))
                words = sum(end for end, tie in zip(ends, ties) if sides[tie][1] == 0)
                self.assertEqual(forms_number(web, many), words * web.rooms[0].size)

    def test_finitely_many(self):
        # [17.3]
        for web in MANY + [Web((TWO, FOUR, TWO), ((0, 1, ((0, 0), (1, 2))), (2, 1, IDLE + ((1, 2),)))), Web((THREE, SIX), ((0, 1, ((0, 0), (1, 3), (2, 4))),))]:
            finite = places_number(web, 2 * web.size + 1) == 0
            self.assertIs(finite, words_number(web) is not None)
            if finite:
                self.assertEqual(sum(forms_number(web, ties) for ties in range(2 * web.size + 2)), words_number(web))
                self.assertEqual({places_number(web, ties) for ties in range(2 * web.size + 1, 201)}, {0})
            else:
                self.assertTrue(all(places_number(web, ties) > 0 for ties in (2 * web.size + 1, 50, 200)))

    def test_far_numbers(self):
        self.assertEqual([forms_number(FLAT, 200), forms_number(FLAT, 199), places_number(FLAT, 200), forms_number(LINE, 200)], [4, 0, 2, 2])
        self.assertEqual([forms_number(FREE23, 2 * ties) for ties in range(1, 101)], [4 * 2 ** ties for ties in range(1, 101)])
        six = Web((ALONE,), ((0, 0, IDLE),) * 6)
        self.assertEqual([places_number(six, ties) for ties in (1, 2, 200)], [12, 132, 12 * 11 ** 199])
        self.assertEqual(forms_number(six, 200), 12 * 11 ** 199)

    def test_own_webs(self):
        words = tuple((0,) + tuple(entry for step in range(50) for entry in (1 + ((step * step + at) % 7 > 2), 0)) for at in range(5))
        own = own_web(Web((ALONE,), ((0, 0, IDLE),) * 2), words)
        self.assertGreater(own.points, 100)
        for ties, row in enumerate(places_by_distance(own, 20)):
            self.assertEqual(places_number(own, ties), len(row))
        self.assertEqual(len(step_table(own)), 2 * own.size)
        self.assertGreaterEqual(forms_number(own, 200), 0)

    def test_errors(self):
        for function in (forms_number, places_number):
            check_arguments(self, function, (FREE23, 4), [webs_wrong(), numbers(-1, 201)])
        for value in NO_WEBS:
            check_error(self, InvalidWeb(""), step_table, (value,))


def raised(table, many):
    """The power of a table, by squares."""
    size = range(len(table))
    made = [[int(at == to) for to in size] for at in size]
    square = [list(row) for row in table]
    while many:
        if many % 2:
            made = [[sum(made[at][by] * square[by][to] for by in size) for to in size] for at in size]
        square = [[sum(square[at][by] * square[by][to] for by in size) for to in size] for at in size]
        many //= 2
    return made


class Powers(unittest.TestCase):
    def check_power(self, web, word, power):
        """All entries of a power are those of its plain form, found from the left."""
        form = any_plain(web, joined(web, *[word] * power)) if power else (0,)
        self.assertEqual(far_ties(web, word, power), len(form) // 2)
        if len(form) < 60:
            self.assertEqual(tuple(far_entry(web, word, power, place) for place in range(len(form))), form)
        else:
            for place in list(range(9)) + list(range(len(form) - 9, len(form))) + list(range(9, len(form) - 9, 7)):
                self.assertEqual(far_entry(web, word, power, place), form[place])
        for place in (len(form), len(form) + 1, 10 ** 59):
            check_error(self, InvalidOperation(""), far_entry, (web, word, power, place))

    def test_entries(self):
        chance = chances(2)
        tried = 0
        for web in MANY + list(SLOW.values()):
            for word in long_words(chance, web, 3):
                tried += 1
                for power in (0, 1, 2, 3, 7):
                    self.check_power(web, word, power)
        self.assertGreater(tried, 60)

    def test_many_powers(self):
        chance = chances(3)
        for web in SLOW.values():
            for word in long_words(chance, web, 2, 4):
                self.check_power(web, word, 40)
                self.check_power(web, word, 61)

    def test_numbers_of_ties(self):
        chance = chances(4)
        for web in MANY + list(SLOW.values()):
            for word in long_words(chance, web, 2):
                length = length_of(web, word)
                # The distance of the first place from the line: on the way to where the word moves it, the line is met.
                row = way(web, (), plain(web, 0, word)[:-1])
                ahead = next(at for at, place in enumerate(row) if on_line(web, word, place))
                for power in (1, 2, 5, 10 ** 6, 10 ** 30 - 1, 10 ** 30):
                    self.assertEqual(far_ties(web, word, power), power * length + 2 * ahead)
                self.assertEqual(far_ties(web, word, 0), 0)
                kind, _, core, by = kind_of(web, word)
                self.assertEqual((kind, len(core) // 2, len(by) // 2), ("long", length, ahead))

    def test_far_entries(self):
        # [17.4]: ties repeat, and stays do so from some tie on; so a far power is read off a near one.
        chance = chances(5)
        for web in list(WEBS.values()) + list(SLOW.values()):
            for word in long_words(chance, web, 2, 4):
                length, total = length_of(web, word), far_ties(web, word, 10 ** 30)
                ahead = (far_ties(web, word, 1) - length) // 2
                # Repeats of all r up to the size of a lot of six have this many ties.
                period = 60 * length if web is not SLOW["whole"] else 24 * 60 * length
                near = 100 + period // length if period < 4000 else 0
                if not near:
                    continue
                form = any_plain(web, joined(web, *[word] * near))
                for place in [chance.randrange(2 * total) for _ in range(12)]:
                    tie = place // 2
                    if tie < ahead + 30 * length or tie >= total - ahead:
                        continue
                    same = tie - (tie - ahead - 30 * length) // period * period
                    self.assertEqual(far_entry(web, word, 10 ** 30, place), form[2 * same + place % 2])
                ties = form[1::2]
                for place in (0, 1, 2, 5, 2 * ahead + 1):
                    self.assertEqual(far_entry(web, word, 10 ** 30, place), form[place])
                for at in range(1, ahead + length + 1):
                    self.assertEqual(far_entry(web, word, 10 ** 30, 2 * total + 1 - 2 * at), ties[-at])

    def test_last_entries(self):
        # The last stay, by the far power as a product of two: the plain form behind a power of one word with the rest.
        for web, word in ((FREE23, WALK), (FREE23, (0, 1, 1, -1, 1)), (LOOP, (1, 1, 1)), (TURNS, (1, 1, 1)), (DOWN, (1,))):
            if length_of(web, word) == 0:
                continue
            last = {}
            for power in range(1, 30):
                form = any_plain(web, joined(web, *[word] * power))
                last[power] = form[-1]
                self.assertEqual(far_entry(web, word, power, len(form) - 1), form[-1])
            # Behind some powers the last stay repeats with a short period.
            period = next(step for step in range(1, 13) if all(last[at] == last[at + step] for at in range(8, 17)))
            total = far_ties(web, word, 10 ** 30)
            self.assertEqual(far_entry(web, word, 10 ** 30, 2 * total), last[8 + (10 ** 30 - 8) % period])

    def test_power_nothing(self):
        for web, word in ((FREE23, WALK), (LOOP, (0, 1, 0)), (FREE23, turned(FREE23, WALK, (0, 1, 1, -1, 0)))):
            self.assertEqual((far_ties(web, word, 0), far_entry(web, word, 0, 0)), (0, 0))
            check_error(self, InvalidOperation(""), far_entry, (web, word, 0, 1))
            check_error(self, InvalidOperation(""), far_entry, (web, word, 0, 2))

    def test_longest_words(self):
        wide = Web((WHOLE,), ((0, 0, IDLE),))
        word = (5,) + (1, 7) * 60
        self.assertEqual(far_ties(wide, word, 10 ** 30), 60 * 10 ** 30)
        self.assertEqual([far_entry(wide, word, 10 ** 30, place) for place in (0, 1, 2)], list(any_plain(wide, word)[:3]))
        self.assertEqual(far_entry(wide, word, 10 ** 30, 120 * 10 ** 30), 7)
        there = (0,) + (1, 0) * 29
        far = joined(wide, there, (3, 1, 3, 1, 2), back(wide, there))
        self.assertEqual((length_of(wide, far), far_ties(wide, far, 10 ** 30)), (2, 2 * 10 ** 30 + 58))
        self.assertEqual(far_entry(wide, far, 10 ** 30, 4 * 10 ** 30 + 116), any_plain(wide, joined(wide, far, far, far))[-1])

    def test_errors(self):
        check_arguments(self, far_ties, (FREE23, WALK, 3), [webs_wrong(), roads_wrong((2,), (0, 1, 0), line_road(FREE23, 62)), numbers(-1, 10 ** 30 + 1)])
        check_arguments(self, far_entry, (FREE23, WALK, 10 ** 30, 3), [
            webs_wrong(), roads_wrong((2,), (0, 1, 0), line_road(FREE23, 62)), numbers(-1, 10 ** 30 + 1),
            [pair for pair in numbers(-1) if pair[0] not in (10 ** 59, 10 ** 60 - 1)],
        ])
        for word in ((0,), (1,), (0, 1, 1, -1, 0), (1, 1, 0, -1, 1)):
            check_error(self, Refused(("round",)), far_ties, (FREE23, word, 10 ** 30))
            check_error(self, Refused(("round",)), far_ties, (FREE23, word, 0))
            # Behind all other errors, and ahead of what the plain form has not.
            check_error(self, Refused(("round",)), far_entry, (FREE23, word, 0, 5))
            check_error(self, InvalidNumber(-1), far_entry, (FREE23, word, 0, -1))
            check_error(self, InvalidNumber(10 ** 60), far_entry, (FREE23, word, 0, 10 ** 60))
            check_error(self, InvalidNumber(10 ** 30 + 1), far_ties, (FREE23, word, 10 ** 30 + 1))
        check_error(self, InvalidOperation(""), far_entry, (FREE23, WALK, 10 ** 30, 10 ** 60 - 1))
        check_error(self, InvalidOperation(""), far_entry, (FREE23, WALK, 10 ** 30, 4 * 10 ** 30 + 1))
        check_error(self, InvalidRoad(""), far_ties, (FREE23, (0,) + (1, 1, -1, 1) * 30 + (1, 1, -1, 1), 1))
        self.assertEqual(far_ties(FREE23, (0,) + (1, 1, -1, 1) * 30, 1), 60)


class NotTrue(unittest.TestCase):
    def test_what_is_not_true(self):
        # A plain word behind itself, with its stays multiplied, is not plain.
        far = turned(FREE23, joined(FREE23, WALK, WALK), (0, 1, 2, -1, 0))
        self.assertEqual((any_plain(FREE23, far), len(far) // 2, length_of(FREE23, far)), (far, 6, 4))
        form = tuple(far_entry(FREE23, far, 2, place) for place in range(2 * far_ties(FREE23, far, 2) + 1))
        self.assertEqual((len(form) // 2, len(joined(FREE23, far, far)) // 2), (10, 12))
        # Stays that are carried on.
        self.assertEqual([far_entry(LOOP, (0, 1, 1), 2, place) for place in range(5)], [0, 1, 0, 1, 0])
        self.assertEqual(joined(LOOP, (0, 1, 1), (0, 1, 1)), (0, 1, 1, 1, 1))
        # Numbers of places that fall.
        self.assertEqual([places_number(DOWN, ties) for ties in range(3)], [1, 1, 1])
        tail = Web((TWO, FOUR, TWO), ((0, 1, IDLE + ((1, 2),)), (1, 2, ((0, 0), (2, 1)))))
        self.assertEqual([places_number(tail, ties) for ties in range(4)], [1, 1, 3, 0])
        # Equal step tables of webs that are not kin.
        one, other = Web((TWO, TWO), ((0, 1, IDLE),)), Web((FOUR, FOUR), ((0, 1, ((0, 0), (2, 2))),))
        self.assertEqual((step_table(one), are_kin(one, other)), (step_table(other), False))


if __name__ == "__main__":
    unittest.main()
