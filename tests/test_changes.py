"""Stage 14: changes of webs that keep the words, [14.1] to [14.7]."""

import itertools
import unittest

from treerooms.base.leading import room_of_lot
from treerooms.base.rooms import Room, lots
from treerooms.errors import InvalidNumber, InvalidOperation, InvalidRoad, InvalidWeb, TooMany
from treerooms.kin.changes import Change, all_needed, begun_at, drawn_together, halved, put_in
from treerooms.trees.alike import are_alike
from treerooms.trees.lines import length_of, order_of
from treerooms.webs.plain import are_equal, plain
from treerooms.webs.webs import Web, fraction, least_tree, needed_ties
from treerooms.worlds.free import words_number
from treerooms.worlds.own import own_web

from tests.makers import (
    ALONE, contrary_of, disguised, is_needed_tie, product_of, put_through, some_webs, words_of,
)
from tests.second import any_plain, back, fraction_of, joined, reading_of, tree_roads
from tests.support import (
    DOWN, FLAT, FOUR, FREE23, IDLE, JUNK, LINE, LOOP, NO_WEBS, SIX, STAR, THREE, TWO, WEBS, WHOLE, chances, check_arguments,
    check_error, line_road, numbers, operations, roads_wrong, webs_wrong,
)

FULL_TWO = ((0, 0), (1, 1))
# Ties that are drawn together from their ends, from their begins, from the point 0 and into it, beside loops and beside one another.
DRAWN = {
    "down": DOWN,
    "up": Web((FOUR, TWO), ((0, 1, ((0, 0), (2, 1))),)),
    "back": Web((TWO, FOUR), ((1, 0, ((0, 0), (2, 1))),)),
    "both": Web((TWO, TWO), ((0, 1, FULL_TWO),)),
    "two": Web((TWO, TWO), ((0, 1, FULL_TWO), (1, 0, FULL_TWO))),
    "loop": Web((TWO, SIX), ((0, 0, FULL_TWO), (1, 0, ((0, 0), (2, 1))), (0, 1, IDLE))),
    "chain": Web((FOUR, TWO, TWO, SIX), ((0, 1, ((0, 0), (2, 1))), (2, 1, FULL_TWO), (2, 3, ((0, 0), (1, 5))))),
    "turned loop": Web((SIX, THREE), ((1, 0, ((0, 0), (1, 4), (2, 3))), (1, 1, ((0, 0), (1, 2), (2, 1))))),
    "last": Web((THREE, FOUR, TWO), ((0, 1, IDLE), (1, 2, ((0, 0), (2, 1))), (0, 2, IDLE))),
    "first": Web((TWO, THREE, FOUR), ((1, 2, IDLE), (2, 0, ((0, 0), (2, 1))), (0, 1, IDLE))),
    "alone": Web((ALONE,) * 5, ((0, 1, IDLE), (1, 2, IDLE), (4, 3, IDLE), (3, 0, IDLE), (4, 2, IDLE), (2, 2, IDLE))),
}


def drawn_web(web, number):
    """What is left behind [14.2], with the names of points, and how stays and ties are led."""
    begin, end, pairs = web.ties[number - 1]
    carries = dict(pairs)
    if len(carries) < web.rooms[begin].size:
        begin, end, carries = end, begin, {b: a for a, b in carries.items()}
    rest = [point for point in range(web.points) if point not in (begin, end)]
    names = {}
    for new in range(web.points - 1):
        names[end if new == min(begin, end) else rest.pop(0)] = new
    names[begin] = names[end]
    rooms = [None] * (web.points - 1)
    for point in range(web.points):
        if point != begin:
            rooms[names[point]] = web.rooms[point]
    numbers = [other for other in range(1, web.size + 1) if other != number]
    ties = []
    for other in numbers:
        u, v, row = web.ties[other - 1]
        row = [(carries[a] if u == begin else a, carries[b] if v == begin else b) for a, b in row]
        ties.append((names[u], names[v], tuple(sorted(row))))
    made = Web(tuple(rooms), tuple(ties))

    def stays(point, member):
        return (carries[member] if point == begin else member,)

    def steps(tie):
        if abs(tie) == number:
            return (0,)
        new = numbers.index(abs(tie)) + 1
        return (0, new if tie > 0 else -new, 0)

    return made, lambda word: any_plain(made, put_through(web, made, word, names.get, stays, steps))


class Ways(unittest.TestCase):
    """What [14.1] tells of all changes."""

    def check_change(self, change, start, web, chance, many=12):
        self.assertIsInstance(change, Change)
        self.assertEqual((change.start, change.web), (start, web))
        self.assertEqual(str(change), f"change of {start.points} points to {web.points}")
        self.assertEqual((fraction(start), words_number(start)), (fraction(web), words_number(web)))
        for one_web, other_web, there, home in (
            (start, change.web, change.there, change.back), (change.web, start, change.back, change.there),
        ):
            words = words_of(chance, one_web, many)
            for word, other in zip(words, words[1:] + words[:1]):
                led = there(word)
                self.assertEqual(led, any_plain(other_web, led))
                self.assertEqual(there(disguised(chance, one_web, word)), led)
                self.assertEqual(there(product_of(one_web, word, other)), product_of(other_web, led, there(other)))
                self.assertEqual(there(contrary_of(one_web, word)), contrary_of(other_web, led))
                if len(led) <= 121:
                    self.assertEqual(home(led), any_plain(one_web, word))
            self.assertEqual(there((0,)), (0,))

    def changes_of(self, web):
        """All changes of a web that the functions tell."""
        found = [all_needed(web)] + [begun_at(web, point) for point in range(web.points)]
        found += [drawn_together(web, tie) for tie in range(1, web.size + 1) if not is_needed_tie(web, tie)]
        if web.points < 5 and web.size < 6:
            found += [halved(web, tie) for tie in range(1, web.size + 1)]
            found += [put_in(web, web.points - 1, lots(web.rooms[-1])[-1]), put_in(web, 0, (0,))]
        return found

    def test_all_changes(self):
        chance = chances(1)
        for web in list(WEBS.values()) + list(DRAWN.values()) + some_webs(2, 24, 5, 2):
            for change in self.changes_of(web):
                self.check_change(change, web, change.web, chance, 4)

    def test_changes_behind_one_another(self):
        chance = chances(3)
        for web in list(DRAWN.values()) + some_webs(4, 10, 3, 2):
            first = chance.choice(self.changes_of(web))
            second = chance.choice(self.changes_of(first.web))
            third = begun_at(second.web, second.web.points - 1)
            both = second.behind(first)
            self.check_change(both, web, second.web, chance, 4)
            whole = third.behind(both)
            for word in words_of(chance, web, 6):
                if len(first.there(word)) <= 121:
                    self.assertEqual(both.there(word), second.there(first.there(word)))
                self.assertEqual(whole.there(word), third.behind(second).behind(first).there(word))
            for word in words_of(chance, second.web, 6):
                if len(second.back(word)) <= 121:
                    self.assertEqual(both.back(word), first.back(second.back(word)))
            self.assertEqual((first.start, first.web, second.start), (web, first.web, first.web))

    def test_many_changes_behind_one_another(self):
        change = begun_at(FLAT, 0)
        for _ in range(40):
            change = change.behind(change)
        self.assertEqual([change.there((1, 1, 1, -1, 0)), change.back((0, 1, 1, -1, 0)), change.web], [(1, 1, 1, -1, 0), (0, 1, 1, -1, 0), FLAT])
        there = halved(FREE23, 1)
        self.assertEqual(drawn_together(there.web, 2).behind(there).there((1, 1, 2, -1, 0)), (1, 1, 2, -1, 0))

    def test_words_that_are_led(self):
        change = halved(LOOP, 1)
        long = line_road(LOOP, 0)[:1] + (1, 1) * 60
        self.assertEqual(len(change.there(long)), 241)
        self.assertEqual(len(change.there((1,) + (1, 0) * 60)) // 2, 120)
        check_error(self, InvalidRoad(""), change.back, (change.there(long),))
        check_error(self, InvalidRoad(""), change.there, ((0,) + (1, 0) * 61,))
        check_error(self, InvalidRoad(""), change.there, ((0,) + (1, 0, 2, 0) * 3,))
        self.assertEqual(change.back((0,) + (1, 0, 2, 0) * 30), (0,) + (1, 0) * 30)
        check_error(self, InvalidRoad(""), change.back, ((0,) + (1, 0, 2, 0) * 30 + (1, 0, 2, 0),))
        for value, wanted in roads_wrong((2,), (0, 1), (0, 2, 0), (0, True, 0), (True,), [0], (0, 1, 10 ** 60)):
            check_error(self, wanted, change.there, (value,))
            check_error(self, wanted, change.back, (value,))

    def test_wrong_changes_behind(self):
        change = drawn_together(DOWN, 1)
        for value in JUNK + (DOWN, Change, begun_at(DOWN, 1), halved(DOWN, 1), change.behind(begun_at(DOWN, 0)).web, (change,)):
            check_error(self, InvalidOperation(""), change.behind, (value,))
        self.assertEqual(change.behind(begun_at(DOWN, 0)).there((1,)), (2,))
        # Webs that are equal, and not one object.
        again = begun_at(Web((TWO, FOUR), ((0, 1, ((0, 0), (1, 2))),)), 0)
        self.assertEqual(change.behind(again).there((1, 1, 1, -1, 0)), (3,))

    def test_changes_are_not_changed(self):
        change, other = drawn_together(DOWN, 1), begun_at(DOWN, 0)
        words = words_of(chances(5), DOWN, 5)
        first = [change.there(word) for word in words]
        change.behind(other)
        self.assertEqual([change.there(word) for word in words], first)
        self.assertNotEqual(change, None)
        with self.assertRaises(TypeError):
            iter(change)


class Drawing(unittest.TestCase):
    def test_second_way(self):
        chance = chances(6)
        seen = set()
        for web in list(DRAWN.values()) + list(WEBS.values()) + some_webs(7, 60, 5, 2):
            for number in range(1, web.size + 1):
                self.assertIs(number in needed_ties(web), is_needed_tie(web, number))
                if is_needed_tie(web, number):
                    check_error(self, InvalidOperation(""), drawn_together, (web, number))
                    check_error(self, InvalidOperation(""), drawn_together, (web, -number))
                    continue
                change = drawn_together(web, number)
                goal, lead = drawn_web(web, number)
                self.assertEqual(change.web, goal)
                self.assertEqual(drawn_together(web, -number).web, goal)
                begin, end, pairs = web.ties[number - 1]
                seen.add((len(pairs) == web.rooms[begin].size, len(pairs) == web.rooms[end].size, begin < end, 0 in (begin, end)))
                for word in words_of(chance, web, 6):
                    self.assertEqual(change.there(word), lead(word))
                    self.assertEqual(drawn_together(web, -number).there(word), lead(word))
        self.assertGreater(len(seen), 8)

    def test_numbers_of_points(self):
        web = Web((THREE, TWO, SIX, FOUR), ((0, 1, IDLE), (1, 3, ((0, 0), (1, 2))), (2, 3, IDLE)))
        # The point 1 goes, and the point 3 gets its number.
        self.assertEqual(drawn_together(web, 2).web, Web((THREE, FOUR, SIX), ((0, 1, IDLE), (2, 1, IDLE))))
        web = Web((THREE, FOUR, SIX, TWO), ((0, 3, IDLE), (3, 1, ((0, 0), (1, 2))), (2, 3, IDLE)))
        self.assertEqual(drawn_together(web, -2).web, Web((THREE, FOUR, SIX), ((0, 1, IDLE), (2, 1, IDLE))))
        web = Web((TWO, THREE, FOUR), ((0, 2, ((0, 0), (1, 2))), (0, 1, IDLE)))
        change = drawn_together(web, 1)
        self.assertEqual(change.web, Web((FOUR, THREE), ((0, 1, IDLE),)))
        self.assertEqual((change.there((1, 2, 1, -2, 0)), change.back((1,))), ((2, 1, 1, -1, 0), (0, 1, 1, -1, 0)))
        # If both ends are whole rooms, the tie's own number is taken: its begin goes.
        turned = ((0, 0), (1, 2), (2, 1))
        web = Web((THREE, THREE), ((0, 1, turned), (0, 0, ((0, 0), (1, 1), (2, 2))), (0, 1, ((0, 0), (1, 1), (2, 2)))))
        self.assertEqual(drawn_together(web, -1).web.ties, ((0, 0, ((0, 0), (1, 1), (2, 2))), (0, 0, turned)))
        self.assertEqual(drawn_together(web, 1).there((1, 2, 0)), (0, 1, 2))

    def test_all_needed(self):
        chance = chances(8)
        for web in list(DRAWN.values()) + list(WEBS.values()) + some_webs(9, 60, 5, 2):
            change, left, steps = all_needed(web), web, []
            while needed_ties(left) != tuple(range(1, left.size + 1)):
                least = min(tie for tie in range(1, left.size + 1) if not is_needed_tie(left, tie))
                steps.append(drawn_together(left, least))
                left = steps[-1].web
            self.assertEqual((change.start, change.web), (web, left))
            self.assertEqual(fraction_of(left), fraction_of(web))
            for word in words_of(chance, web, 4):
                led = word
                for step in steps:
                    led = step.there(led)
                self.assertEqual(change.there(word), any_plain(left, led))
            for word in words_of(chance, left, 4):
                led = word
                for step in steps[::-1]:
                    if len(led) > 121:
                        break
                    led = step.back(led)
                else:
                    self.assertEqual(change.back(word), any_plain(web, led))
            # Other sequences leave equally many points and ties.
            other = web
            while needed_ties(other) != tuple(range(1, other.size + 1)):
                number = chance.choice([tie for tie in range(1, other.size + 1) if not is_needed_tie(other, tie)])
                other = drawn_together(other, number).web
            self.assertEqual((other.points, other.size), (left.points, left.size))

    def test_large_webs(self):
        own = own_web(LINE, ((0,) + (1, 0) * 60, (0,) + (1, 0) * 55))
        self.assertEqual(own.points, 5)
        loops = Web((ALONE,), ((0, 0, IDLE), (0, 0, IDLE)))
        long = tuple((0,) + tuple(entry for step in range(60) for entry in (1 + ((step * step + at) % 7 > 2), 0)) for at in range(5))
        own = own_web(loops, long)
        self.assertGreater(own.points, 100)
        change = all_needed(own)
        self.assertEqual((change.web.points, change.web.size), (1, own.size - own.points + 1))
        word = (0,) + (1, 0) * 60
        self.assertEqual(begun_at(own, 7).web.rooms, own.rooms)
        check_error(self, TooMany(5), put_in, (own, 0, (0,)))
        check_error(self, TooMany(5), halved, (own, 1))
        self.assertEqual(len(change.back(word)) // 2 > 60, True)


class Others(unittest.TestCase):
    def test_put_in(self):
        chance = chances(10)
        for web in (Web.lone(SIX), Web.lone(WHOLE), FREE23, LOOP, DOWN, STAR):
            for point in range(web.points):
                for lot in lots(web.rooms[point])[:12] + lots(web.rooms[point])[-1:]:
                    change = put_in(web, point, lot)
                    tie = (point, web.points, tuple((member, at) for at, member in enumerate(lot)))
                    self.assertEqual(change.web, Web(web.rooms + (room_of_lot(web.rooms[point], lot),), web.ties + (tie,)))
                    self.assertEqual(change.start, web)
                    for word in words_of(chance, web, 3):
                        self.assertEqual(change.there(word), any_plain(web, word))
                        self.assertEqual(any_plain(web, change.back(word)), any_plain(web, word))
                    new, steps = web.size + 1, lambda entry: (0,) if abs(entry) > web.size else (0, entry, 0)
                    for word in words_of(chance, change.web, 4):
                        stays = lambda at, member: (lot[member] if at == web.points else member,)
                        wanted = put_through(change.web, web, word, lambda at: point if at == web.points else at, stays, steps)
                        self.assertEqual(change.back(word), any_plain(web, wanted))
                    self.assertEqual(change.back(tree_roads(change.web)[point] + (new, len(lot) - 1, -new) + back(change.web, tree_roads(change.web)[point])), any_plain(web, joined(web, tree_roads(web)[point], (lot[-1],), back(web, tree_roads(web)[point]))))

    def test_halved(self):
        chance = chances(11)
        for web in [web for web in list(WEBS.values()) + list(DRAWN.values()) + some_webs(12, 20, 4, 2) if web.points < 5 and web.size < 6]:
            for number in range(1, web.size + 1):
                change = halved(web, number)
                begin, end, pairs = web.ties[number - 1]
                ties = list(web.ties)
                ties[number - 1] = (begin, web.points, tuple((a, at) for at, (a, _) in enumerate(pairs)))
                ties.append((web.points, end, tuple((at, b) for at, (_, b) in enumerate(pairs))))
                wanted = Web(web.rooms + (room_of_lot(web.rooms[begin], tuple(a for a, _ in pairs)),), tuple(ties))
                self.assertEqual((change.start, change.web, halved(web, -number).web), (web, wanted, wanted))
                new = web.size + 1
                for word in words_of(chance, web, 4):
                    row = []
                    for at, entry in enumerate(word):
                        if at % 2 == 1 and abs(entry) == number:
                            row += [number, 0, new] if entry > 0 else [-new, 0, -number]
                        else:
                            row.append(entry)
                    self.assertEqual(change.there(word), any_plain(wanted, tuple(row)))
                    self.assertEqual(halved(web, -number).there(word), change.there(word))

    def test_begun_at(self):
        chance = chances(13)
        for web in list(WEBS.values()) + some_webs(14, 20, 5, 2):
            for point in range(web.points):
                change = begun_at(web, point)
                names = list(range(web.points))
                names[0], names[point] = point, 0
                ties = tuple((names[u], names[v], pairs) for u, v, pairs in web.ties)
                wanted = Web(tuple(web.rooms[name] for name in names), ties)
                self.assertEqual((change.web, least_tree(change.web)), (wanted, least_tree(web)))
                # The road along the least tree, found by looking through all roads there.
                tree = least_tree(web)
                roads = {0: (0,)}
                for _ in range(web.points):
                    for tie in tree:
                        u, v, _ = web.ties[tie - 1]
                        if u in roads and v not in roads:
                            roads[v] = roads[u] + (tie, 0)
                        if v in roads and u not in roads:
                            roads[u] = roads[v] + (-tie, 0)
                road = roads[point]
                for word in words_of(chance, web, 4):
                    led = joined(wanted, back(web, road), word, road)
                    self.assertEqual(change.there(word), any_plain(wanted, led))
                self.assertEqual(begun_at(wanted, point).web, web)

    def test_bounds(self):
        four = Web((ALONE,) * 4, ((0, 1, IDLE), (1, 2, IDLE), (2, 3, IDLE), (0, 0, IDLE), (0, 0, IDLE)))
        five = Web((ALONE,) * 5, ((0, 1, IDLE), (1, 2, IDLE), (2, 3, IDLE), (3, 4, IDLE)))
        six = Web((TWO,), ((0, 0, IDLE),) * 6)
        both = Web((ALONE,) * 5, ((0, 1, IDLE), (1, 2, IDLE), (2, 3, IDLE), (3, 4, IDLE), (0, 0, IDLE), (0, 0, IDLE)))
        for web, wanted in ((five, 5), (six, 6), (both, 5), (put_in(four, 0, (0,)).web, 5)):
            check_error(self, TooMany(wanted), put_in, (web, 0, (0,)))
            check_error(self, TooMany(wanted), halved, (web, 1))
            check_error(self, TooMany(wanted), halved, (web, -1))
            # Errors with "then" come behind all others.
            check_error(self, InvalidNumber(web.points), put_in, (web, web.points, (0,)))
            check_error(self, InvalidOperation(""), put_in, (web, 0, (1,)))
            check_error(self, InvalidNumber(0), halved, (web, 0))
            check_error(self, InvalidNumber(7), halved, (web, 7))
        for made in (put_in(four, 3, (0,)).web, halved(four, 5).web):
            self.assertEqual((made.points, made.size), (5, 6))

    def test_wrong_arguments(self):
        check_arguments(self, lambda *given: drawn_together(*given).web, (DOWN, 1), [webs_wrong(), numbers(0, 2, -2)])
        check_arguments(self, lambda *given: halved(*given).web, (DOWN, -1), [webs_wrong(), numbers(0, 2, -2)])
        check_arguments(self, lambda *given: begun_at(*given).web, (DOWN, 1), [webs_wrong(), numbers(-1, 2)])
        check_arguments(self, lambda *given: put_in(*given).web, (DOWN, 1, (0, 2)), [
            webs_wrong(), numbers(-1, 2), operations((0, 1), (2,), (), (2, 0), (0, 0), [0, 2], (0, True), (0, 4)),
        ])
        for value in NO_WEBS:
            check_error(self, InvalidWeb(""), all_needed, (value,))
        check_error(self, InvalidOperation(""), drawn_together, (FREE23, -1))
        check_error(self, InvalidNumber(2), drawn_together, (FREE23, 2))


class NotTrue(unittest.TestCase):
    def test_what_is_not_true(self):
        # Another sequence leaves another web.
        differing = [each for each in some_webs(16, 60, 3, 3) if len(self.left_by_all_sequences(each)) > 1]
        self.assertTrue(differing)
        # A tie that is needed and halved: neither of its parts is needed.
        self.assertEqual((needed_ties(FREE23), needed_ties(halved(FREE23, 1).web)), ((1,), ()))
        # Lengths in ties.
        self.assertEqual(len(halved(FREE23, 1).there((1, 1, 2, -1, 0))) - len((1, 1, 2, -1, 0)), 4)
        self.assertEqual(drawn_together(DOWN, 1).there((1, 1, 1, -1, 0)), (3,))

    def left_by_all_sequences(self, web):
        """The webs that are left, by what tells them apart."""
        free = [tie for tie in range(1, web.size + 1) if not is_needed_tie(web, tie)]
        if not free:
            return {(tuple(room.members for room in web.rooms), web.ties)}
        return set().union(*[self.left_by_all_sequences(drawn_together(web, tie).web) for tie in free])

    def test_what_goes_along(self):
        chance = chances(15)
        for web in list(DRAWN.values()) + [FREE23, STAR, LOOP]:
            change = all_needed(web)
            words = words_of(chance, web, 6, 4)
            for one, other in itertools.combinations(words, 2):
                led, goal = change.there(one), change.there(other)
                self.assertIs(are_equal(change.web, led, goal), are_equal(web, one, other))
                self.assertIs(are_alike(change.web, led, goal), are_alike(web, one, other))
                self.assertEqual(order_of(change.web, led), order_of(web, one))
                self.assertIs(length_of(change.web, led) == 0, length_of(web, one) == 0)
                self.assertEqual(plain(change.web, 0, led), led)
        self.assertEqual(reading_of(DOWN).end(0, (0, 1, 0)), 1)
        self.assertEqual(Room.round(4), all_needed(DOWN).web.rooms[0])


if __name__ == "__main__":
    unittest.main()
