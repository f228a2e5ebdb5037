"""Stage 15: slides, and webs that are kin, [0.23] and [15.1] to [15.7]."""

import itertools
import unittest

from treerooms.base.leading import renamings
from treerooms.base.rooms import Room
from treerooms.counts.stocks import free_number, stocks_number
from treerooms.counts.sums import sum_divisors
from treerooms.errors import InvalidNumber, InvalidOperation, InvalidWeb, TooMany
from treerooms.kin.slides import are_kin, is_kin_steps, kin_steps, renamed, slid, tie_turned
from treerooms.trees.alike import are_alike
from treerooms.trees.lines import order_of
from treerooms.trees.tree import still_lots
from treerooms.webs.webs import Web, fraction, needed_ties
from treerooms.worlds.free import ends
from treerooms.worlds.own import own_web

from tests.makers import (
    ALONE, ODD_TWO, ROUND_SIX, contrary_of, disguised, is_needed_tie, product_of, put_through, some_web, some_webs, told, with_side,
    words_of,
)
from tests.second import any_plain, reading_of
from tests.support import (
    DOWN, FLAT, FOUR, FREE23, HALVES, IDLE, JUDGED, LINE, LOOP, NO_WEBS, SIX, STAR, THREE, TURNS, TWO, WEBS, WHOLE, chances,
    check_arguments, check_error, check_judged, numbers, operations, webs_wrong,
)

CHAIN = Web((TWO, TWO, THREE), ((0, 1, IDLE), (1, 2, IDLE)))
ARM = Web((SIX, FOUR), ((0, 1, ((0, 0), (1, 2))),))
NAMES = ("names", (0, 1, 2), ((0, 1), (0, 1), (0, 1, 2)), (1, 2))
SIDE = (("slide", 2, 1), NAMES)


def slid_web(web, tie, over):
    """The slide as [15.1] tells it, None if it is not let."""
    begin, end, pairs = told(web, tie)
    over_begin, over_end, over_pairs = told(web, over)
    if begin != over_begin or over in (tie, -tie) or not set(pairs) <= set(over_pairs):
        return None
    return Web(web.rooms, with_side(web, tie, over_end, end, {over_pairs[a]: b for a, b in pairs.items()}))


def turned_web(web, tie, by):
    """The web with a tie turned, as [15.2] tells it."""
    begin, end, pairs = told(web, tie)
    table, undo = reading_of(web).tables[begin], reading_of(web).contraries[begin]
    return Web(web.rooms, with_side(web, tie, begin, end, {table[table[by][a]][undo[by]]: b for a, b in pairs.items()}))


def renamed_web(web, rooms, points, rows, ties):
    """The renamed web, as [15.3] tells it."""
    found = {}
    for (begin, end, pairs), name in zip(web.ties, ties):
        row = [(rows[begin][a], rows[end][b]) for a, b in pairs]
        ends = (points[begin], points[end])
        if name < 0:
            ends, row = ends[::-1], [pair[::-1] for pair in row]
        found[abs(name)] = (*ends, tuple(sorted(row)))
    return Web(rooms, tuple(found[number] for number in sorted(found)))


def directed(web):
    return [tie for tie in range(-web.size, web.size + 1) if tie]


def all_names(one, other):
    """All points, renamings and ties that lead the one web to the other one."""
    if (one.points, one.size) != (other.points, other.size):
        return
    for points in itertools.permutations(range(one.points)):
        choices = [renamings(room, other.rooms[points[at]]) for at, room in enumerate(one.rooms)]
        for rows in itertools.product(*choices):
            for order in itertools.permutations(range(1, one.size + 1)):
                for signs in itertools.product((1, -1), repeat=one.size):
                    names = tuple(number * sign for number, sign in zip(order, signs))
                    if renamed_web(one, other.rooms, points, rows, names) == other:
                        yield points, rows, names


def all_reached(web, most):
    """All webs to which slides and turns lead; None if they are more than `most`."""
    found = {web.ties: web}
    waiting = [web]
    while waiting:
        one = waiting.pop()
        more = [slid_web(one, tie, over) for tie in directed(one) for over in directed(one)]
        more += [turned_web(one, tie, by) for tie in directed(one) for by in range(one.rooms[told(one, tie)[0]].size)]
        for next_web in more:
            if next_web is not None and next_web.ties not in found:
                found[next_web.ties] = next_web
                waiting.append(next_web)
                if len(found) > most:
                    return None
    return list(found.values())


def some_step(chance, web):
    """A slide or a turn that is let."""
    choices = [(tie, over) for tie in directed(web) for over in directed(web) if slid_web(web, tie, over) is not None]
    if choices and chance.random() < 0.6:
        return ("slide", *chance.choice(choices))
    tie = chance.choice(directed(web))
    return ("turn", tie, chance.randrange(web.rooms[told(web, tie)[0]].size))


def behind(web, step):
    return slid_web(web, *step[1:]) if step[0] == "slide" else turned_web(web, *step[1:])


KINDS = {1: (ALONE,), 2: (TWO, ODD_TWO), 3: (THREE, Room(4, ((0, 2, 3, 1),))), 6: (SIX, Room(4, ((0, 2, 1, 3), (0, 2, 3, 1))))}


def some_names(chance, web):
    """New rooms, points, renamings and ties for a web."""
    points = list(range(web.points))
    chance.shuffle(points)
    rooms = [None] * web.points
    rows = []
    for at, room in enumerate(web.rooms):
        choices = [other for other in KINDS.get(room.size, ()) + (room,) if renamings(room, other)]
        rooms[points[at]] = chance.choice(choices)
        rows.append(chance.choice(renamings(room, rooms[points[at]])))
    order = list(range(1, web.size + 1))
    chance.shuffle(order)
    return tuple(rooms), tuple(points), tuple(rows), tuple(number * chance.choice((1, -1)) for number in order)


def needed_webs(seed, many, rooms, most_points=3, most_ties=3):
    """Webs whose ties are all needed."""
    chance, found = chances(seed), []
    while len(found) < many:
        points = 1 + chance.randrange(most_points)
        web = some_web(chance, points, min(most_ties, points - 1 + chance.randrange(3)), rooms)
        if all(is_needed_tie(web, number) for number in range(1, web.size + 1)):
            found.append(web)
    return found


class Steps(unittest.TestCase):
    def test_slides(self):
        done, refused = 0, 0
        for web in list(WEBS.values()) + [CHAIN, ARM] + some_webs(1, 40, 4, 2):
            for tie in directed(web):
                for over in directed(web):
                    wanted = slid_web(web, tie, over)
                    if wanted is None:
                        refused += 1
                        check_error(self, InvalidOperation(""), slid, (web, tie, over))
                        continue
                    done += 1
                    self.assertEqual(slid(web, tie, over), wanted)
                    self.assertEqual(slid(wanted, tie, -over), web)
        self.assertGreater(min(done, refused), 60)

    def test_turned_ties(self):
        chance = chances(2)
        for web in list(WEBS.values()) + [CHAIN, ARM] + some_webs(3, 30, 4, 2):
            for tie in directed(web):
                room = web.rooms[told(web, tie)[0]]
                for by in {0, room.size - 1, chance.randrange(room.size)}:
                    wanted = turned_web(web, tie, by)
                    self.assertEqual(tie_turned(web, tie, by), wanted)
                    self.assertEqual(tie_turned(wanted, tie, room.contrary(by)), web)
                self.assertEqual(tie_turned(web, tie, 0), web)

    def test_renamings(self):
        chance = chances(4)
        for web in list(WEBS.values()) + [CHAIN, ARM] + some_webs(5, 40, 4, 2):
            rooms, points, rows, ties = some_names(chance, web)
            wanted = renamed_web(web, rooms, points, rows, ties)
            self.assertEqual(renamed(web, rooms, points, rows, ties), wanted)
            same = (tuple(range(web.points)), tuple(tuple(range(room.size)) for room in web.rooms), tuple(range(1, web.size + 1)))
            self.assertEqual(renamed(web, web.rooms, *same), web)
            # The way back.
            back_points = tuple(points.index(at) for at in range(web.points))
            back_rows = tuple(tuple(rows[at].index(member) for member in range(web.rooms[at].size)) for at in back_points)
            back_ties = [0] * web.size
            for number, name in enumerate(ties, start=1):
                back_ties[abs(name) - 1] = number if name > 0 else -number
            self.assertEqual(renamed(wanted, web.rooms, back_points, back_rows, tuple(back_ties)), web)

    def leads(self, web, step):
        """The web behind a step, and how its words are led, as [15.4] tells."""
        goal = behind(web, step)
        name, tie, by = step
        own = lambda at, member: (member,)
        if name == "slide":
            def steps(entry):
                if entry == tie:
                    return (0, by, 0, tie, 0)
                return (0, -tie, 0, -by, 0) if entry == -tie else (0, entry, 0)
        else:
            undo = reading_of(web).contraries[told(web, tie)[0]][by]

            def steps(entry):
                if entry == tie:
                    return (undo, tie, 0)
                return (0, -tie, by) if entry == -tie else (0, entry, 0)
        return goal, lambda word: any_plain(goal, put_through(web, goal, word, lambda at: at, own, steps))

    def test_words_that_are_led(self):
        chance = chances(6)
        for web in [WEBS[name] for name in ("free", "flat", "loop", "turns", "star", "shared", "wide", "line")] + some_webs(7, 20, 4, 2):
            if web.size == 0:
                continue
            for _ in range(4):
                step = some_step(chance, web)
                goal, lead = self.leads(web, step)
                words = words_of(chance, web, 6)
                for word, other in zip(words, words[1:]):
                    self.assertEqual(lead(disguised(chance, web, word)), lead(word))
                    self.assertEqual(lead(product_of(web, word, other)), product_of(goal, lead(word), lead(other)))
                    self.assertEqual(lead(contrary_of(web, word)), contrary_of(goal, lead(word)))
                    self.assertEqual(lead(word) == lead(other), any_plain(web, word) == any_plain(web, other))
                    if len(lead(word)) <= 121 and len(lead(other)) <= 121:
                        self.assertEqual(order_of(goal, lead(word)), order_of(web, word))
                        self.assertIs(are_alike(goal, lead(word), lead(other)), are_alike(web, word, other))

    def test_what_stays(self):
        chance = chances(8)
        for web in needed_webs(9, 25, (TWO, THREE, FOUR, SIX, HALVES, ALONE)):
            left = web
            for _ in range(3):
                if left.size:
                    step = some_step(chance, left)
                    left = slid(left, *step[1:]) if step[0] == "slide" else tie_turned(left, *step[1:])
            self.assertEqual(needed_ties(left), tuple(range(1, web.size + 1)))
            self.assertEqual((fraction(left), still_lots(left), ends(left)), (fraction(web), still_lots(web), ends(web)))
            self.assertEqual([stocks_number(left, many) for many in range(1, 5)], [stocks_number(web, many) for many in range(1, 5)])
            self.assertEqual([free_number(left, many) for many in (2, 4, 6, 12)], [free_number(web, many) for many in (2, 4, 6, 12)])
            self.assertEqual(sum_divisors(left), sum_divisors(web))
            rooms, points, rows, ties = some_names(chance, left)
            other = renamed(left, rooms, points, rows, ties)
            lots = [None] * web.points
            for at, lot in enumerate(still_lots(left)):
                lots[points[at]] = tuple(sorted(rows[at][member] for member in lot))
            self.assertEqual(still_lots(other), tuple(lots))
            self.assertEqual(stocks_number(other, 4), stocks_number(web, 4))

    def test_wrong_arguments(self):
        directed_wrong = numbers(0, 3, -3)
        check_arguments(self, lambda *given: slid(*given).ties, (STAR, 2, 1), [webs_wrong(), directed_wrong, directed_wrong])
        check_arguments(self, lambda *given: tie_turned(*given).ties, (ARM, 1, 3), [webs_wrong(), numbers(0, 2), numbers(-1, 6)])
        check_error(self, InvalidNumber(5), tie_turned, (ARM, -1, 5))
        for tie, over in ((1, 1), (1, -1), (-1, 1), (2, -2), (1, -2), (-1, 2)):
            check_error(self, InvalidOperation(""), slid, (STAR, tie, over))
        # The lot of the tie must be within that of the one over which it slides, at its begin.
        web = Web((SIX, FOUR, SIX), ((0, 1, ((0, 0), (1, 2))), (0, 2, IDLE), (0, 2, ((0, 0), (2, 1)))))
        check_error(self, InvalidOperation(""), slid, (web, 1, 2))
        check_error(self, InvalidOperation(""), slid, (web, 1, 3))
        self.assertEqual(slid(web, 2, 1).ties[1], (1, 2, IDLE))
        by = next(by for by in range(6) if turned_web(web, 1, by).lot(1) == (0, 2))
        self.assertEqual(slid(tie_turned(web, 1, by), 1, 3).ties[0], (2, 1, ((0, 0), (1, 2))))
        check_error(self, InvalidOperation(""), slid, (web, -1, 3))

    def test_wrong_names(self):
        good = ((TWO, THREE, TWO), (2, 0, 1), ((0, 1), (0, 1), (0, 2, 1)), (2, -1))
        check_arguments(self, lambda *given: renamed(*given).ties, (STAR, *good), [
            webs_wrong(), operations((TWO, THREE), (TWO, THREE, TWO, TWO), [TWO, THREE, TWO], (TWO, TWO, THREE), (TWO, SIX, TWO), (TWO, THREE, 2)),
            operations((2, 2, 1), (2, 0), (2, 0, 1, 3), (0, 1, 2), [2, 0, 1], (2, False, True), (2, 0, True), (-1, 0, 1), (2, 0, 10 ** 60)),
            operations(((0, 1), (0, 1)), ((0, 1), (0, 1), (0, 1, 2), (0,)), ((0, 1), (0, 1), (1, 0, 2)), ((1, 0), (0, 1), (0, 1, 2)),
                       ((0, 1), (0, 1), (0, 1, 1)), ((0, 1), (0, 1), [0, 2, 1]), [(0, 1), (0, 1), (0, 2, 1)], ((0, True), (0, 1), (0, 2, 1)),
                       ((0, 1), (0, 1), (0, 2)), ((0, 2, 1), (0, 1), (0, 1))),
            operations((), (1,), (1, 3), (1, 1), (1, -1), [2, -1], (True, 2), 1, (-3, 1), (10 ** 60, 1), (0, 1), (1, 2, 3)),
        ])
        check_error(self, InvalidOperation(""), renamed, (STAR, STAR.rooms, (0, 1, 2), NAMES[2], (1, -1)))
        check_error(self, InvalidOperation(""), renamed, (STAR, STAR.rooms, (0, 1, 2), NAMES[2], (1, 2, 1)))
        check_error(self, InvalidWeb(""), renamed, (None, (), 1, 1, 1))
        # Rooms need not be equal, but of one kind.
        self.assertEqual(renamed(FLAT, (ODD_TWO, TWO), (0, 1), ((0, 1), (0, 1)), (-1,)), Web((ODD_TWO, TWO), ((1, 0, IDLE),)))


class Kin(unittest.TestCase):
    def check_kin(self, one, other, wanted=None):
        steps = kin_steps(one, other)
        self.assertIs(are_kin(one, other), steps is not None)
        if steps is not None:
            self.assertIs(type(steps), tuple)
            self.assertIs(is_kin_steps(one, other, steps), True)
            left = one
            for step in steps[:-1]:
                left = behind(left, step)
            self.assertEqual(steps[-1][0], "names")
            self.assertEqual(renamed_web(left, other.rooms, *steps[-1][1:]), other)
            self.assertLessEqual(len(steps), 2000)
            self.assertEqual(kin_steps(one, other), steps)
        if wanted is not None:
            self.assertIs(steps is not None, wanted)
        return steps is not None

    def test_drawn_steps(self):
        chance = chances(10)
        rooms = (ALONE, TWO, ODD_TWO, THREE, FOUR, HALVES, SIX, ROUND_SIX, Room.round(6))
        for web in needed_webs(11, 60, rooms, 4) + needed_webs(12, 20, (HALVES, SIX), 3):
            left, steps = web, []
            for _ in range(chance.randrange(6) if web.size else 0):
                steps.append(some_step(chance, left))
                left = behind(left, steps[-1])
            names = some_names(chance, left)
            other = renamed_web(left, *names)
            self.assertIs(is_kin_steps(web, other, (*steps, ("names", *names[1:]))), True)
            self.check_kin(web, other, True)
            self.check_kin(other, web, True)
            self.check_kin(web, web, True)

    def test_second_way(self):
        answers = []
        chance = chances(13)
        for seed in range(40):
            rooms = chance.choice([(TWO, THREE), (TWO, FOUR), (THREE, SIX), (SIX,), (HALVES, TWO), (FOUR, HALVES), (ALONE, TWO), (HALVES,)])
            one, other = needed_webs(seed, 2, rooms, 2, 2)
            if seed % 3 == 0:
                other = Web(other.rooms[:0] + one.rooms, one.ties) if seed % 2 else some_like(chance, one)
            reached = all_reached(one, 400)
            if reached is None:
                continue
            wanted = any(next(all_names(left, other), None) is not None for left in reached)
            answers.append(self.check_kin(one, other, wanted))
        self.assertGreater(min(answers.count(True), answers.count(False)), 8)

    def test_webs_that_are_not_kin(self):
        fours, twos = Web((FOUR, FOUR), ((0, 1, IDLE),)), Web((TWO, TWO, TWO), ((0, 1, IDLE), (0, 2, IDLE)))
        self.assertEqual((fraction(fours), fraction(twos)), ((-1, 2), (-1, 2)))
        self.check_kin(fours, twos, False)
        # Equal rooms and as many ties: loops that are led by renamings in different ways.
        whole = tuple((member, member) for member in range(4))
        round_ones = tuple((member, (0, 2, 3, 1)[member]) for member in range(4))
        webs = [Web((HALVES,), ((0, 0, whole), (0, 0, row))) for row in (whole, round_ones)]
        self.check_kin(*webs, False)
        self.check_kin(Web((THREE,), ((0, 0, ((0, 0), (1, 1), (2, 2))),)), TURNS, False)
        self.check_kin(LOOP, LINE, False)
        self.check_kin(FREE23, FLAT, False)
        self.check_kin(Web.lone(SIX), Web.lone(Room.round(6)), False)
        self.check_kin(Web.lone(Room.round(6)), Web.lone(ROUND_SIX), True)
        # Ties of two members whose lots are the same ones, or not.
        same = Web((HALVES, FOUR, FOUR), ((0, 1, ((0, 0), (1, 2))), (0, 2, ((0, 0), (1, 2)))))
        other = Web((HALVES, FOUR, FOUR), ((0, 1, ((0, 0), (1, 2))), (0, 2, ((0, 0), (2, 2)))))
        self.check_kin(same, other, False)
        self.check_kin(same, Web((HALVES, FOUR, FOUR), ((0, 1, ((0, 0), (1, 2))), (1, 2, ((0, 0), (2, 2))))), True)
        self.check_kin(other, Web((HALVES, FOUR, FOUR), ((0, 1, ((0, 0), (1, 2))), (1, 2, ((0, 0), (2, 2))))), False)

    def test_greatest_webs(self):
        pair = ((0, 0), (1, 1))
        for rooms in ((SIX,) * 4, (HALVES,) * 4, (FOUR, HALVES, SIX, ROUND_SIX), (TWO, ODD_TWO, THREE, SIX), (Room.round(6),) * 4):
            for row in (IDLE, pair):
                if any(room.size in (2, 3) for room in rooms) or rooms[0].size == 4 and row == pair and rooms[1] is HALVES and rooms[0] is FOUR:
                    row = IDLE
                if rooms == (Room.round(6),) * 4 and row == pair:
                    row = ((0, 0), (3, 3))
                star = Web(rooms, ((0, 1, row), (0, 2, row), (3, 0, row)))
                chain = Web(rooms, ((2, 1, row), (3, 1, row), (0, 3, row)))
                self.check_kin(star, chain, True)
                mixed = Web(rooms, ((2, 1, IDLE), (3, 1, row), (0, 3, row)))
                self.check_kin(star, mixed, row == IDLE)
        loops = Web((SIX,), ((0, 0, ((0, 0), (1, 2))), (0, 0, IDLE), (0, 0, ((0, 0), (3, 4), (4, 3)))))
        self.check_kin(loops, Web((SIX,), ((0, 0, IDLE), (0, 0, ((0, 0), (3, 3), (4, 4))), (0, 0, ((0, 0), (5, 5))))), True)
        self.check_kin(loops, Web((SIX,), ((0, 0, IDLE), (0, 0, ((0, 0), (3, 3), (4, 4))), (0, 0, IDLE))), False)

    def test_bounds(self):
        seven = Room(6, ((1, 2, 3, 0, 4, 5), (0, 1, 2, 3, 5, 4)))
        large, four = Web.lone(seven), Web((ALONE,), ((0, 0, IDLE),) * 4)
        three = Web((ALONE,), ((0, 0, IDLE),) * 3)
        unneeded = Web((TWO, FOUR, WHOLE), ((0, 1, ((0, 0), (1, 2))), (0, 2, IDLE), (0, 2, IDLE), (0, 2, IDLE)))
        for function in (kin_steps, are_kin):
            for one, other, wanted in (
                (large, FREE23, TooMany(6)), (FREE23, large, TooMany(6)), (four, FREE23, TooMany(3)), (FREE23, four, TooMany(3)),
                (four, large, TooMany(6)), (large, four, TooMany(6)), (DOWN, FREE23, InvalidOperation("")), (FREE23, DOWN, InvalidOperation("")),
                (unneeded, large, InvalidOperation("")), (four, unneeded, InvalidOperation("")), (large, DOWN, InvalidOperation("")),
            ):
                check_error(self, wanted, function, (one, other))
        self.check_kin(three, three, True)
        self.check_kin(three, Web((Room(6, ()),), ((0, 0, IDLE),) * 3), True)
        # What judges has no such bounds.
        same = ("names", (0,), (tuple(range(8)),), ())
        self.assertIs(is_kin_steps(large, large, (same,)), True)
        loops = ("names", (0,), ((0,),), (4, -1, 2, 3))
        self.assertIs(is_kin_steps(four, four, (loops,)), True)
        self.assertIs(is_kin_steps(four, three, (loops,)), False)
        for one, other in ((DOWN, FREE23), (FREE23, DOWN), (unneeded, four)):
            check_error(self, InvalidOperation(""), is_kin_steps, (one, other, ()))
        own = own_web(Web((ALONE,), ((0, 0, IDLE),) * 2), ((0, 1, 0, 1, 0), (0, 2, 0)))
        check_error(self, InvalidOperation(""), kin_steps, (own, FREE23))
        # An own web whose ties are all needed.
        stock = own_web(FREE23, ((1,), (0, 1, 1, -1, 0)))
        self.check_kin(stock, FREE23, True)

    def test_wrong_arguments(self):
        for function in (kin_steps, are_kin):
            check_arguments(self, function, (STAR, CHAIN), [webs_wrong(), webs_wrong()])
        check_arguments(self, is_kin_steps, (STAR, CHAIN, None), [webs_wrong(), webs_wrong(), []])
        for value in NO_WEBS:
            check_error(self, InvalidWeb(""), is_kin_steps, (value, DOWN, None))
            check_error(self, InvalidWeb(""), are_kin, (DOWN, value))

    def test_judged_values(self):
        self.assertIs(is_kin_steps(STAR, CHAIN, SIDE), True)
        to_and_fro = (("slide", 2, 1), ("slide", 2, -1))
        self.assertIs(is_kin_steps(STAR, CHAIN, to_and_fro * 999 + SIDE), True)
        self.assertIs(is_kin_steps(STAR, STAR, to_and_fro * 999 + (("turn", 1, 1), NAMES)), True)
        check_judged(self, is_kin_steps, (STAR, STAR), (to_and_fro * 1000 + (NAMES,), to_and_fro, (), NAMES, (NAMES, NAMES), [NAMES]))
        self.assertIs(is_kin_steps(STAR, STAR, (NAMES,)), True)
        bad = [
            ("slide", 2), ("slide", 2, 1, 0), ("slide", 2, True), ("slide", True, 1), ("slide", 0, 1), ("slide", 3, 1), ("slide", 2, 3),
            ("slide", 2, 2), ("slide", 2, -2), ("slide", -2, 1), ("slide", 2, 10 ** 99), ("turned", 2, 0), ("turn", 2, 2), ("turn", 2, -1),
            ("turn", 2, True), ("turn", 0, 0), ("turn", 2), ["slide", 2, 1], "slide", None, (), 7, (2, 2, 1), ("names", 2, 1), NAMES,
            ("turn", -2, 3), ("turn", 1, 10 ** 99), ("turn", None, 0), ("slide", (2,), 1), ({}, 2, 1), ([], 2, 1),
        ]
        for step in bad:
            self.assertIs(is_kin_steps(STAR, CHAIN, (step,) + SIDE), False, step)
            self.assertIs(is_kin_steps(STAR, CHAIN, SIDE[:1] + (step,) + SIDE[1:]), False, step)
        for last in (
            ("names", (0, 1), NAMES[2], (1, 2)), ("names", (0, 2, 1), NAMES[2], (1, 2)), ("names", (1, 0, 2), NAMES[2], (1, 2)),
            ("names", (0, 1, 2), NAMES[2], (2, 1)), ("names", (0, 1, 2), NAMES[2], (1, -2)), ("names", (0, 1, 2), NAMES[2], (1,)),
            ("names", (0, 1, 2), NAMES[2][:2], (1, 2)), ("names", (0, 1, 2), ((0, 1), (0, 1), (0, 1, 1)), (1, 2)), ("name",) + NAMES[1:],
            ("names", [0, 1, 2], NAMES[2], (1, 2)), ("names", (0, True, 2), NAMES[2], (1, 2)), ("names", (0, 1, 2), NAMES[2], (True, 2)),
            ("names", (0, 1, 2), ((0, True), (0, 1), (0, 1, 2)), (1, 2)), NAMES + (0,), NAMES[:3], list(NAMES), None, 5,
            ("names", (0, 1, 2), NAMES[2], (1, 10 ** 99)), ("slide", 2, 1),
        ):
            self.assertIs(is_kin_steps(STAR, CHAIN, (SIDE[0], last)), False, last)
        for last in (("names", (0, 1, 2), ((0, 1), (0, 1), (0, 2, 1)), (1, 2)),):
            self.assertIs(is_kin_steps(STAR, CHAIN, (SIDE[0], last)), True)
        check_judged(self, is_kin_steps, (STAR, CHAIN), JUDGED)
        check_judged(self, is_kin_steps, (FREE23, FLAT), JUDGED + (SIDE, (NAMES,)))


def some_like(chance, web):
    """Another web with the same rooms, and with as many ties."""
    while True:
        other = some_web(chance, web.points, web.size, web.rooms)
        if all(is_needed_tie(other, number) for number in range(1, other.size + 1)):
            return other


class NotTrue(unittest.TestCase):
    def test_what_is_not_true(self):
        # Equal rooms and as many ties, but not kin.
        whole = ((0, 0), (1, 1), (2, 2))
        self.assertIs(are_kin(Web((THREE,), ((0, 0, whole),)), TURNS), False)
        # One fraction, -1/2, but not kin.
        fours, twos = Web((FOUR, FOUR), ((0, 1, IDLE),)), Web((TWO, TWO, TWO), ((0, 1, IDLE), (0, 2, IDLE)))
        self.assertEqual((fraction(fours), fraction(twos), are_kin(fours, twos)), ((-1, 2), (-1, 2), False))
        # A slide that makes the same web.
        double = Web((ALONE,), ((0, 0, IDLE), (0, 0, IDLE)))
        self.assertEqual(slid(double, 1, 2), double)
        # Kin webs whose ties are between rooms of other kinds.
        self.assertEqual([[(web.rooms[u].size, web.rooms[v].size) for u, v, _ in web.ties] for web in (STAR, CHAIN)], [[(2, 2), (2, 3)], [(2, 2), (2, 3)]])
        middle = Web((TWO, THREE, FOUR), ((0, 1, IDLE), (1, 2, IDLE)))
        ends_web = slid(middle, 2, -1)
        self.assertEqual(sorted((ends_web.rooms[u].size, ends_web.rooms[v].size) for u, v, _ in ends_web.ties), [(2, 3), (2, 4)])
        self.assertIs(are_kin(middle, ends_web), True)


if __name__ == "__main__":
    unittest.main()
