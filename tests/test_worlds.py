"""Stage 9: worlds, [0.19] and [9.1] to [9.6]."""

import unittest

from treerooms.base.rooms import Room
from treerooms.errors import InvalidNumber, InvalidOperation, InvalidRoad, InvalidWeb, InvalidWorld, Refused, TooMany
from treerooms.webs.plain import is_nothing, plain
from treerooms.webs.webs import Web
from treerooms.worlds import worlds
from treerooms.worlds.cores import core
from treerooms.worlds.free import free_world
from treerooms.worlds.worlds import (
    World, hangs_together, is_free, is_full, is_made_full, is_nothing_paper, lots_of_spots, made_full, nothing_paper, walked,
    world_fault,
)

from tests.second import (
    any_plain, free_ways, full_free_parts, is_free_of, is_full_of, is_good_world, least_multiple, pieces, some_pairs,
    some_world, walk, winding_word,
)
from tests.support import (
    DOWN, FLAT, FREE23, IDLE, JUDGED, JUNK, LINE, LOOP, NO_WEBS, SHARED, SIX, TURNS, TWO, WEBS, WHOLE, WIDE, Reading,
    chances, check_arguments, check_error, check_judged, line_road, nested, numbers, roads_wrong, webs_wrong,
)
from tests.test_tree import NO_WORDS

SWAP, STILL = ((0, 1), (1, 0)), ((0,), (0,))
PAIR = World(FLAT, (SWAP, SWAP), (((0, 0), (1, 1)),))
APART = World(FLAT, (SWAP, SWAP), ((),))
EMPTY = World(FLAT, (((), ()), ((), ())), ((),))
NO_WORLDS = JUNK + (TWO, FREE23, (PAIR,), [PAIR], PAIR.moves)


def worlds_wrong():
    return [(value, InvalidWorld("")) for value in NO_WORLDS]


def some_worlds(seed, many=6, most=7):
    """Worlds of all webs."""
    chance = chances(seed)
    return [World(web, *some_world(chance, web, most)) for web in WEBS.values() for _ in range(many)]


class Worlds(unittest.TestCase):
    def test_constant(self):
        self.assertEqual(worlds.MAX_SPOTS, 400)

    def test_what_a_world_tells(self):
        for world in some_worlds(1):
            self.assertEqual(world.spots, tuple(len(rows[0]) for rows in world.moves))
            spots, pairs = sum(world.spots), sum(map(len, world.pairs))
            self.assertEqual(str(world), f"world of {spots} spots, {pairs} pairs")
            same = World(world.web, world.moves, world.pairs)
            self.assertTrue(world == same and not world != same)
            self.assertIsNone(world_fault(world.web, world.moves, world.pairs))
            with self.assertRaises(TypeError):
                iter(world)
        self.assertEqual((PAIR.web, PAIR.moves, PAIR.pairs, PAIR.spots), (FLAT, (SWAP, SWAP), (((0, 0), (1, 1)),), (2, 2)))
        self.assertEqual((str(EMPTY), str(World(Web.lone(TWO), (((), ()),), ()))), ("world of 0 spots, 0 pairs",) * 2)

    def test_equality(self):
        other = World(Web((TWO, TWO), ((0, 1, IDLE),)), (SWAP, SWAP), (((0, 0), (1, 1)),))
        self.assertTrue(PAIR == other and not PAIR != other)
        for value in (APART, EMPTY, World(FLAT, (SWAP, SWAP), (((0, 1), (1, 0)),)), World(FLAT, (SWAP, STILL), ((),))) + NO_WORLDS:
            self.assertTrue(PAIR != value and not PAIR == value)
        mirrored = Web((TWO, TWO), ((1, 0, IDLE),))
        self.assertNotEqual(PAIR, World(mirrored, (SWAP, SWAP), (((0, 0), (1, 1)),)))

    def test_faults(self):
        faults = []
        chance = chances(2)
        for world in some_worlds(3, 12, 6):
            web = world.web
            moves, pairs = [list(map(list, rows)) for rows in world.moves], [list(row) for row in world.pairs]
            for _ in range(chance.randrange(1, 3)):
                point = chance.randrange(web.points)
                row = chance.choice(moves[point])
                if len(row) > 1 and chance.random() < 0.4:
                    one, other = chance.sample(range(len(row)), 2)
                    mixed = list(row)
                    mixed[one], mixed[other] = row[other], row[one]
                    moves[point][moves[point].index(row)] = mixed
                elif web.size:
                    tie = chance.randrange(web.size)
                    if pairs[tie]:
                        pairs[tie].remove(chance.choice(pairs[tie]))
            moves = tuple(tuple(tuple(row) for row in rows) for rows in moves)
            pairs = tuple(tuple(row) for row in pairs)
            wanted = self.wanted_fault(web, moves, pairs)
            self.assertEqual(world_fault(web, moves, pairs), wanted)
            faults.append(wanted and wanted[0])
            if wanted is not None:
                check_error(self, Refused(wanted), World, (web, moves, pairs))
            else:
                World(web, moves, pairs)
        self.assertGreater(min(faults.count("moves"), faults.count("pairs"), faults.count(None)), 8)

    def wanted_fault(self, web, moves, pairs):
        for point, room in enumerate(web.rooms):
            if not is_good_world(Web.lone(room), (moves[point],), ()):
                return ("moves", point)
        for number in range(1, web.size + 1):
            alone = tuple(row if at == number - 1 else () for at, row in enumerate(pairs))
            if not is_good_world(web, moves, alone):
                return ("pairs", number)
        return None

    def test_told_faults(self):
        self.assertEqual(world_fault(LOOP, (SWAP,), (((0, 0),),)), ("pairs", 1))
        # The member 0 moves no spot; products go along; the first fault counts.
        self.assertEqual(world_fault(FLAT, (SWAP, ((1, 0), (0, 1))), ((),)), ("moves", 1))
        self.assertEqual(world_fault(FLAT, (((1, 0), (1, 0)), ((1, 0), (0, 1))), (((0, 0),),)), ("moves", 0))
        rows = tuple((0, 1) if member % 2 == 0 else (1, 0) for member in range(4))
        self.assertEqual(world_fault(DOWN, (SWAP, rows), (((0, 0),),)), ("pairs", 1))
        self.assertIsNone(world_fault(DOWN, (((0, 1), (0, 1)), rows), (((0, 0),),)))
        two = Web((TWO,), ((0, 0, IDLE + ((1, 1),)), (0, 0, IDLE + ((1, 1),))))
        self.assertEqual(world_fault(two, (SWAP,), (((0, 0), (1, 1)), ((0, 1),))), ("pairs", 2))
        self.assertEqual(world_fault(two, (SWAP,), (((1, 0),), ((0, 1),))), ("pairs", 1))
        self.assertIsNone(world_fault(two, (((0, 1), (0, 1)),), (((1, 0),), ((0, 1),))))

    def test_wrong_forms(self):
        good = (((0, 0), (1, 1)),)
        one = (0, 1)
        moves = JUNK + (
            SWAP, (SWAP,), (SWAP, SWAP, SWAP), [SWAP, SWAP], (SWAP, list(SWAP)), (SWAP, ([0, 1], (1, 0))), (SWAP, (one,)), (SWAP, SWAP + (one,)),
            (SWAP, ((0, 1), (1, 0, 2))), (SWAP, ((0, 1), (1, 1))), (SWAP, ((0, 1), (2, 0))), (SWAP, ((0, 1), (True, 0))), (SWAP, ((0, True), (1, 0))),
            (SWAP, ((0, False), (0, 0))), (SWAP, ((0, 1), ())), (SWAP, ()), (SWAP, ((0, 1), (1, 10 ** 60))), (SWAP, ((0, 1), (-1, 0))), (SWAP, PAIR),
            (SWAP, ((0, 1), "10")), (SWAP, None), ((), ()), (SWAP, ({}, {})), nested(8),
        )
        pairs = JUNK + (
            good[0], ((), ()), [()], ([],), (((1, 1), (0, 0)),), (((0, 0), (0, 0)),), (((0, 0), (0, 1)),), (((0, 0), (1, 0)),), (((0, 2), (1, 1)),),
            (((2, 0),),), (((0, -1),),), (((0, True), (1, 0)),), (((False, 0),),), (((0, 0, 0),),), (((0,),),), ((0, 0),), (([0, 0],),), ((PAIR,),),
            (((0, 10 ** 60),),), (((0, None),),), ("00",), (None,), ({},), (((0, 0), (1, 1)), ()),
        )
        # Where no tie is, the one tuple of pairs is ().
        for function in (World, world_fault):
            check_arguments(self, function, (FLAT, (SWAP, SWAP), good), [
                webs_wrong(), [(value, InvalidWorld("")) for value in moves], [(value, InvalidWorld("")) for value in pairs if value != ((),)],
            ])
            check_error(self, InvalidWorld(""), function, (FLAT, (((1, 0), (1, 0)), SWAP), (((0, 0), (0, 1)),)))
            check_error(self, InvalidWorld(""), function, (Web.lone(TWO), (SWAP,), ((),)))
            for value in NO_WEBS:
                check_error(self, InvalidWeb(""), function, (value, None, None))

    def test_four_hundred_spots(self):
        for web, sizes in ((FLAT, (200, 200)), (FLAT, (400, 0)), (FLAT, (0, 400)), (Web.lone(TWO), (400,))):
            moves = tuple(free_ways(room, size) for room, size in zip(web.rooms, sizes))
            self.assertEqual(World(web, moves, ((),) * web.size).spots, sizes)
        still = tuple((tuple(range(size)),) * 2 for size in (200, 201))
        for function in (World, world_fault):
            check_error(self, InvalidWorld(""), function, (FLAT, still, ((),)))
            check_error(self, InvalidWorld(""), function, (Web.lone(TWO), ((tuple(range(401)),) * 2,), ()))
            check_error(self, InvalidWorld(""), function, (FLAT, (((tuple(range(402)),) * 2), ((), ())), ((),)))
        self.assertEqual(World(FLAT, (still[0], still[0]), ((),)).spots, (200, 200))


class Asked(unittest.TestCase):
    def test_full_free_and_in_one_piece(self):
        seen = set()
        chance = chances(4)
        some = some_worlds(5, 14, 4) + some_worlds(6, 3, 9) + [PAIR, APART, EMPTY]
        some += [World(web, *full_free_parts(chance, web, least_multiple(web))) for web in WEBS.values() if least_multiple(web) * web.points <= 400]
        for world in some:
            told = (is_full(world), is_free(world), hangs_together(world))
            wanted = (
                is_full_of(world.web, world.moves, world.pairs), is_free_of(world.moves),
                len(pieces(world.web, world.moves, world.pairs)) <= 1,
            )
            self.assertEqual(told, wanted)
            seen.add(told)
        self.assertEqual(len(seen), 8)
        self.assertEqual((is_full(EMPTY), is_free(EMPTY), hangs_together(EMPTY)), (True, True, True))
        for function in (is_full, is_free, hangs_together, made_full):
            check_arguments(self, function, (PAIR,), [worlds_wrong()])

    def test_lots_of_spots(self):
        for world in some_worlds(7):
            for point, rows in enumerate(world.moves):
                lots = {tuple(sorted({row[spot] for row in rows})) for spot in rows[0]}
                self.assertEqual(lots_of_spots(world, point), tuple(sorted(lots)))
        check_arguments(self, lots_of_spots, (PAIR, 1), [worlds_wrong(), numbers(2, -1)])
        self.assertEqual(lots_of_spots(EMPTY, 0), ())

    def test_walked(self):
        chance = chances(8)
        ends = [0, 0]
        for world in some_worlds(9, 6, 8):
            reading = Reading(world.web)
            for _ in range(25):
                point = chance.randrange(world.web.points)
                if world.spots[point] == 0:
                    check_error(self, InvalidNumber(0), walked, (world, point, 0, (0,)))
                    continue
                spot = chance.randrange(world.spots[point])
                road = reading.some_road(chance, point, chance.randrange(5))
                told = walked(world, point, spot, road)
                self.assertEqual(told, walk(world, point, spot, road))
                ends[told is None] += 1
                for other in reading.exchanges(road)[:8]:
                    self.assertEqual(walked(world, point, spot, other), told)
        self.assertGreater(min(ends), 200)

    def test_equal_roads_in_full_worlds(self):
        chance = chances(10)
        for name, web in sorted(WEBS.items()):
            if least_multiple(web) * web.points > 400:
                continue
            world = World(web, *full_free_parts(chance, web, least_multiple(web)))
            reading = Reading(web)
            for _ in range(10):
                word = reading.some_word(chance, 8)
                goals = [walked(world, 0, spot, word) for spot in range(world.spots[0])]
                self.assertEqual(goals, [walked(world, 0, spot, plain(web, 0, word)) for spot in range(world.spots[0])])
                self.assertEqual(sorted(goals), [(0, spot) for spot in range(world.spots[0])])
                point = chance.randrange(web.points)
                road = reading.some_road(chance, point, 6)
                self.assertEqual(walked(world, point, 0, road), walked(world, point, 0, plain(web, point, road)))

    def test_wrong_arguments_of_walked(self):
        road = (1, 1, 1, -1, 0)
        wrong = roads_wrong(
            list(road), (1, 1), (2,), (True,), (False,), (0, 2, 0), (0, 1, 2), (0, True, 0), (0, 1, 1, 1, 0), line_road(FLAT, 61), (road,),
        )
        check_arguments(self, walked, (PAIR, 0, 1, road), [worlds_wrong(), numbers(2, -1), numbers(2, -1), wrong])
        check_arguments(self, walked, (PAIR, 1, 0, (1, -1, 0)), [worlds_wrong(), numbers(2, -1), numbers(2, -1), wrong])
        check_error(self, InvalidRoad(""), walked, (PAIR, 1, 0, road))
        check_error(self, InvalidRoad(""), walked, (PAIR, 0, 0, line_road(FLAT, 61)))
        self.assertEqual(walked(PAIR, 0, 1, line_road(FLAT, 60)), (0, 1))
        for spot in (0, 1, -1, None):
            check_error(self, InvalidNumber(spot), walked, (EMPTY, 0, spot, (0,)))


def free_parts(chance, web, most, tries):
    """Moves and pairs of a free world."""
    moves = tuple(free_ways(room, room.size * chance.randrange(most // room.size + 1)) for room in web.rooms)
    return moves, tuple(some_pairs(chance, web, number, moves, tries) for number in range(1, web.size + 1))


class MadeFull(unittest.TestCase):
    def check_full(self, world, value, most=400):
        """The value is a full free world with all of the world."""
        self.assertIsInstance(value, World)
        self.assertEqual(value.web, world.web)
        self.assertTrue(is_good_world(value.web, value.moves, value.pairs))
        self.assertTrue(is_full_of(value.web, value.moves, value.pairs) and is_free_of(value.moves))
        self.assertEqual(len(set(value.spots)), 1)
        self.assertLessEqual(sum(value.spots), most)
        for rows, others in zip(world.moves, value.moves):
            self.assertTrue(all(other[:len(row)] == row for row, other in zip(rows, others)))
        for row, other in zip(world.pairs, value.pairs):
            self.assertLessEqual(set(row), set(other))
        self.assertEqual(World(value.web, value.moves, value.pairs), value)

    def test_made_full(self):
        chance = chances(11)
        for name, web in sorted(WEBS.items()):
            if least_multiple(web) * web.points > 400:
                continue
            for _ in range(12):
                world = World(web, *free_parts(chance, web, chance.choice((5, 12, 30)), 6))
                step = least_multiple(web)
                many = step * max(1, -(-max(world.spots) // step))
                if many * web.points > 400:
                    for function, rest in ((made_full, ()), (is_made_full, (None,))):
                        check_error(self, TooMany(400), function, (world,) + rest)
                    continue
                told = made_full(world)
                self.check_full(world, told)
                self.assertEqual(made_full(world), told)
                self.assertIs(is_made_full(world, told), True)
        self.assertEqual(made_full(PAIR), PAIR)
        self.assertIs(is_made_full(EMPTY, EMPTY), True)
        self.check_full(EMPTY, made_full(EMPTY))

    def test_other_full_worlds(self):
        chance = chances(12)
        answers = []
        for web in (FREE23, FLAT, LOOP, TURNS, DOWN, SHARED, LINE, WEBS["pressed"], WEBS["double"]):
            step = least_multiple(web)
            for many in (step, 2 * step, 3 * step):
                if many * web.points > 400:
                    continue
                whole = World(web, *full_free_parts(chance, web, many))
                sizes = [room.size * chance.randrange(many // room.size + 1) for room in web.rooms]
                moves = tuple(free_ways(room, size) for room, size in zip(web.rooms, sizes))
                pairs = tuple(
                    tuple((one, other) for one, other in row if one < sizes[begin] and other < sizes[end])
                    for (begin, end, _), row in zip(web.ties, whole.pairs)
                )
                part = World(web, moves, pairs)
                self.check_full(part, whole)
                self.assertIs(is_made_full(part, whole), True)
                # Another full world has the part only if it has all its pairs.
                other = World(web, *full_free_parts(chance, web, many))
                wanted = all(set(row) <= set(others) for row, others in zip(part.pairs, other.pairs))
                self.assertIs(is_made_full(part, other), wanted)
                answers.append(wanted)
                self.assertIs(is_made_full(whole, part), part == whole)
        self.assertGreater(min(answers.count(True), answers.count(False)), 4)

    def test_refused_values(self):
        check_judged(self, is_made_full, (PAIR,), NO_WORLDS + JUDGED + (APART, EMPTY, World(FLAT, (SWAP, SWAP), (((0, 1), (1, 0)),))))
        twice = free_ways(TWO, 4)
        for pairs in ((0, 0), (1, 1), (2, 2), (3, 3)), ((0, 0), (1, 1), (2, 3), (3, 2)):
            self.assertIs(is_made_full(PAIR, World(FLAT, (twice, twice), (pairs,))), True)
        check_judged(self, is_made_full, (PAIR,), (
            World(FLAT, (twice, twice), (((0, 2), (1, 1), (2, 0), (3, 3)),)), World(FLAT, (twice, twice), (((0, 0), (1, 1)),)),
            World(FLAT, (twice, SWAP), (((0, 0), (1, 1)),)), World(FLAT, (((0, 1, 2), (1, 0, 2)),) * 2, (((0, 0), (1, 1), (2, 2)),)),
            World(FLAT, (((0, 1, 2, 3), (2, 3, 0, 1)),) * 2, (((0, 0), (1, 1), (2, 2), (3, 3)),)),
            World(Web((TWO, TWO), ((1, 0, IDLE),)), (SWAP, SWAP), (((0, 0), (1, 1)),)),
        ))
        # A full free world with more than 400 spots is none that is taken.
        large = free_world(FLAT, 400)
        self.assertEqual(sum(large.spots), 800)
        self.assertIs(is_made_full(EMPTY, large), False)
        self.assertIs(is_made_full(EMPTY, free_world(FLAT, 200)), True)
        check_error(self, TooMany(400), made_full, (large,))
        check_error(self, TooMany(400), made_full, (free_world(FLAT, 202),))
        self.assertEqual(made_full(free_world(FLAT, 200)), free_world(FLAT, 200))

    def test_wrong_arguments(self):
        check_arguments(self, is_made_full, (PAIR, None), [worlds_wrong(), []])
        for moves in ((STILL, SWAP), (SWAP, ((0, 1, 2), (1, 0, 2))), (((0, 1), (0, 1)), SWAP)):
            world = World(FLAT, moves, ((),))
            for function, rest in ((made_full, ()), (is_made_full, (None,))):
                check_error(self, InvalidOperation(""), function, (world,) + rest)
        # What is not free is told ahead of what has too many spots.
        wide = World(WIDE, tuple((tuple(range(20)),) * room.size for room in WIDE.rooms), ((),) * 6)
        check_error(self, InvalidOperation(""), made_full, (wide,))
        empty = World(WIDE, tuple(((),) * room.size for room in WIDE.rooms), ((),) * 6)
        self.check_full(empty, made_full(empty))
        many = Web((WHOLE, Room.round(5), SIX), ((0, 1, IDLE), (0, 2, IDLE)))
        self.assertEqual(made_full(World(many, (((),) * 24, ((),) * 5, ((),) * 6), ((), ()))).spots, (120, 120, 120))
        four = Web((WHOLE, Room.round(5), SIX, SIX), ((0, 1, IDLE), (0, 2, IDLE), (0, 3, IDLE)))
        check_error(self, TooMany(400), made_full, (World(four, (((),) * 24, ((),) * 5, ((),) * 6, ((),) * 6), ((), (), ())),))

    def test_what_is_not_true(self):
        # Of the two rooms' spots one is left by a member, so no free world has them.
        world = World(FREE23, (SWAP, ((0,),) * 3), ((),))
        check_error(self, InvalidOperation(""), made_full, (world,))
        full = World(FLAT, (SWAP, SWAP), (((0, 0), (1, 1)),))
        word = (1, 1, 1, -1, 0)
        self.assertEqual(([walked(full, 0, spot, word) for spot in (0, 1)], is_nothing(FLAT, word)), ([(0, 0), (0, 1)], False))


class Nothing(unittest.TestCase):
    def bound(self, web, word):
        return (len(any_plain(web, word)) // 2 + 1) * least_multiple(web) * web.points

    def test_papers(self):
        kinds = []
        chance = chances(13)
        large = Web((WHOLE, Room.round(5)), ((0, 1, IDLE),))
        for web in list(WEBS.values()) + [large]:
            reading = Reading(web)
            words = [reading.some_word(chance, 8) for _ in range(12)] + [winding_word(chance, web, chance.randrange(6)) for _ in range(8)] + [(0,)]
            for word in words + [(member,) for member in range(min(3, web.rooms[0].size))]:
                if self.bound(web, word) > 400:
                    for function, rest in ((nothing_paper, ()), (is_nothing_paper, (None,))):
                        check_error(self, TooMany(400), function, (web, word) + rest)
                    kinds.append("refused")
                    continue
                paper = nothing_paper(web, word)
                kinds.append(paper[0])
                self.assertIs(is_nothing_paper(web, word, paper), True)
                self.assertEqual(paper[0] == "nothing", any_plain(web, word) == (0,))
                if paper[0] == "nothing":
                    self.assertEqual(paper, ("nothing",))
                    continue
                _, world, spot = paper
                self.assertTrue(is_good_world(web, world.moves, world.pairs))
                self.assertTrue(is_full_of(web, world.moves, world.pairs) and is_free_of(world.moves))
                self.assertLessEqual(sum(world.spots), 400)
                self.assertLessEqual(max(world.spots), self.bound(web, word) // web.points)
                self.assertNotEqual(walk(world, 0, spot, word), (0, spot))
                self.assertIs(is_nothing_paper(web, word, ("nothing",)), False)
                self.assertIs(is_nothing_paper(web, (0,), paper), False)
                # Any spot that is moved will do, in any such world.
                for other in range(world.spots[0]):
                    moves_it = walk(world, 0, other, word) != (0, other)
                    self.assertIs(is_nothing_paper(web, word, ("moves", World(web, world.moves, world.pairs), other)), moves_it)
        self.assertGreater(min(kinds.count(kind) for kind in ("nothing", "moves", "refused")), 5)

    def test_bounds(self):
        # (k + 1) M p is 4 (k + 1) for the rooms of two.
        word = (1,) + (1, 1, -1, 1) * 30
        self.assertEqual(self.bound(FLAT, word), 244)
        self.assertEqual(nothing_paper(FLAT, word)[0], "moves")
        # 12 (k + 1) is at most 400 up to k = 32.
        for ties, refused in ((16, False), (17, True)):
            word = (1,) + (1, 1, -1, 1) * ties
            self.assertEqual(self.bound(FREE23, word), 12 * (2 * ties + 1))
            if refused:
                check_error(self, TooMany(400), nothing_paper, (FREE23, word))
                check_error(self, TooMany(400), is_nothing_paper, (FREE23, word, ("nothing",)))
            else:
                self.assertIs(is_nothing_paper(FREE23, word, nothing_paper(FREE23, word)), True)
        # The plain form counts; so do rooms of a word that is nothing.
        self.assertEqual(nothing_paper(FREE23, line_road(FREE23, 60)), ("nothing",))
        wide = Web((WHOLE, Room.round(5), SIX, SIX), ((0, 1, IDLE), (0, 2, IDLE), (0, 3, IDLE)))
        for word in ((0,), (1,)):
            check_error(self, TooMany(400), nothing_paper, (wide, word))
            check_error(self, TooMany(400), is_nothing_paper, (wide, word, ("nothing",)))
        # 20 (k + 1) is just 400 for k = 19.
        ten = Web((Room.round(5), Room.round(2)), ((0, 1, IDLE), (0, 1, IDLE)))
        word = (1,) + (1, 1, -2, 1) * 9 + (1, 1, -1, 0)
        self.assertEqual((len(word) // 2, self.bound(ten, word)), (20, 420))
        check_error(self, TooMany(400), nothing_paper, (ten, word))
        loop = Web((Room.round(5), Room.round(2)), ((0, 1, IDLE), (0, 0, IDLE)))
        word = (1,) + (2, 1) * 19
        self.assertEqual(self.bound(loop, word), 400)
        told = nothing_paper(loop, word)
        self.assertLessEqual(sum(told[1].spots), 400)
        self.assertIs(is_nothing_paper(loop, word, told), True)

    def test_judged_values(self):
        word = (1, 1, 1, -1, 0)
        check_judged(self, is_nothing_paper, (FLAT, (1,)), NO_WORLDS + JUDGED + (
            ("nothing",), ("moves",), ("moves", PAIR), ("moves", PAIR, True), ("moves", PAIR, False), ("moves", PAIR, 2), ("moves", PAIR, -1),
            ("moves", PAIR, 0, 0), ["moves", PAIR, 0], ("moves", APART, 0), ("moves", EMPTY, 0), ("moves", PAIR.moves, 0), ("nothing", PAIR, 0),
            ("moves", free_world(FLAT, 202), 0), ("moves", core(FLAT, ((1,),)), 0), ("moves", PAIR, (0,)), ("moves", PAIR, 10 ** 4000),
            ("moves", World(Web((TWO, TWO), ((1, 0, IDLE),)), PAIR.moves, PAIR.pairs), 0), ("moves", FLAT, 0), ("", PAIR, 0), (None, PAIR, 0),
        ))
        self.assertIs(is_nothing_paper(FLAT, (1,), ("moves", PAIR, 1)), True)
        self.assertIs(is_nothing_paper(FLAT, (1,), ("moves", free_world(FLAT, 200), 0)), True)
        check_judged(self, is_nothing_paper, (FLAT, word), (("moves", PAIR, 0), ("moves", PAIR, 1), ("nothing",)))
        check_judged(self, is_nothing_paper, (FLAT, (0,)), (("nothing", 0), ["nothing"], "nothing", (("nothing",),), ("Nothing",), ("moves", PAIR, 0), ()))
        self.assertIs(is_nothing_paper(FLAT, (1, 1, 0, -1, 1), ("nothing",)), True)

    def test_wrong_arguments(self):
        check_arguments(self, nothing_paper, (FREE23, (1,)), [webs_wrong(), roads_wrong(*NO_WORDS)])
        check_arguments(self, is_nothing_paper, (FREE23, (1,), None), [webs_wrong(), roads_wrong(*NO_WORDS), []])

    def test_what_is_not_true(self):
        # A full free world that this word moves no spot of, though it is not nothing.
        self.assertEqual(is_nothing(FLAT, (1, 1, 1, -1, 0)), False)
        self.assertEqual([walk(PAIR, 0, spot, (1, 1, 1, -1, 0)) for spot in (0, 1)], [(0, 0), (0, 1)])


if __name__ == "__main__":
    unittest.main()
