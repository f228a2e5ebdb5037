"""Stage 20: texts of rooms, webs, roads and worlds, [20.7] and [20.8]."""

import re
import unittest

from treerooms.base.rooms import Room
from treerooms.errors import (
    InvalidNumber, InvalidRoad, InvalidRoom, InvalidWeb, InvalidWorld, ParseError, Refused, TooMany,
)
from treerooms.text.texts import read, read_road, read_room, read_web, read_world, write_road, write_room, write_web, write_world
from treerooms.webs.webs import Web
from treerooms.worlds.cores import core
from treerooms.worlds.free import free_world
from treerooms.worlds.own import own_web
from treerooms.worlds.worlds import World

from tests.makers import ALONE, some_webs
from tests.second import full_free_parts, some_world
from tests.support import (
    DOWN, FLAT, FREE23, IDLE, JUNK, LINE, LOOP, NO_ROOMS, ROOMS, SIX, TWO, WEBS, WHOLE, Reading, chances, check_arguments, check_error, closure,
    line_road, nested, numbers, roads_wrong, rooms_wrong, webs_wrong,
)
from tests.test_worlds import PAIR, SWAP, worlds_wrong

NUMBER = r"(0|[1-9][0-9]{0,3})"
PAIRS = rf"{NUMBER}\.{NUMBER}(,{NUMBER}\.{NUMBER})*"
TIE = rf"{NUMBER}>{NUMBER}:{PAIRS}"
MOVES = rf"{NUMBER}(:{NUMBER}(\.{NUMBER})*(,{NUMBER}(\.{NUMBER})*)*)?"
SPOTS = rf"(-|{PAIRS})"
ROAD = r"(0|-?[1-9][0-9]{0,3})(/(0|-?[1-9][0-9]{0,3}))*"
NO_TEXTS = (None, 1, True, (), ("room 2",), ["room 2"], {}, TWO, FREE23, nested(8), "x" * 20001, " " * 20001, "room 2" + " " * 20000)


def is_room_piece(piece):
    return any(re.fullmatch(rf"{points}(:[0-9]{{{points}}}(,[0-9]{{{points}}})*)?", piece) for points in range(1, 10))


def pieces_of(text):
    return [(found.start(), found.group()) for found in re.finditer(r"[^ ]+", text)]


def fault_at(heads, text):
    """Where the first piece begins that cannot stand there; None if all can."""
    rest = pieces_of(text) + [(len(text), None)]
    rooms = ties = 0

    def next_is(test):
        return rest[0][1] is not None and bool(test(rest[0][1]))

    if not next_is(lambda piece: piece in heads):
        return rest[0][0]
    head = rest.pop(0)[1]
    while next_is(is_room_piece) and (head != "room" or rooms == 0):
        rest.pop(0)
        rooms += 1
    if rooms == 0:
        return rest[0][0]
    while head != "room" and next_is(lambda piece: re.fullmatch(TIE, piece)):
        rest.pop(0)
        ties += 1
    if head == "world":
        if not next_is(lambda piece: piece == "spots"):
            return rest[0][0]
        rest.pop(0)
        for pattern in [MOVES] * rooms + [SPOTS] * ties:
            if not next_is(lambda piece: re.fullmatch(pattern, piece)):
                return rest[0][0]
            rest.pop(0)
    return None if len(rest) == 1 else rest[0][0]


def blanks(chance, text):
    """The text with more blanks between its pieces and at its ends."""
    spread = "".join(" " * chance.randrange(1, 4) if sign == " " else sign for sign in text)
    return " " * chance.randrange(3) + spread + " " * chance.randrange(3)


def spoilt(chance, text):
    """A text with a piece spoilt, lacking, too many, or in another place."""
    pieces = text.split(" ")
    at = chance.randrange(len(pieces))
    way = chance.randrange(7)
    if way == 0:
        del pieces[at]
    elif way == 1:
        pieces.insert(at, chance.choice(pieces + ["-", "0", "0>0:0.0", "room", "web", "spots", "x"]))
    elif way == 2:
        other = chance.randrange(len(pieces))
        pieces[at], pieces[other] = pieces[other], pieces[at]
    elif way == 3:
        pieces = pieces[:at]
    else:
        place = chance.randrange(len(pieces[at]) + 1)
        sign = chance.choice("0123456789:,.>-/ \t\nxw")
        pieces[at] = pieces[at][:place] + sign + pieces[at][place + (way > 4):]
    return " ".join(pieces)


def made(function, *arguments):
    """What a call returns, or its error."""
    try:
        return function(*arguments), None
    except (ParseError, InvalidRoom, InvalidNumber, InvalidWeb, InvalidWorld, InvalidRoad, TooMany, Refused) as error:
        return None, (type(error), vars(error))


class Writing(unittest.TestCase):
    def test_rooms(self):
        for room in ROOMS.values():
            text = write_room(room)
            makers, taken = [], []
            for member in range(1, room.size):
                if member not in closure(room, taken):
                    taken.append(member)
                    makers.append("".join(map(str, room.members[member])))
            self.assertEqual(text, f"room {room.points}" + (":" + ",".join(makers) if makers else ""))
            self.assertEqual((read_room(text), read(text)), (room, room))
            self.assertEqual(write_room(read_room(text)), text)
            other = Room(room.points, room.members[-4:]) if len(room.members) > 3 else room
            if other == room:
                self.assertEqual(write_room(other), text)
        self.assertEqual(read_room("room 6"), Room(6, ()))
        self.assertEqual(read_room("room 1:0"), ALONE)

    def test_webs(self):
        for web in list(WEBS.values()) + some_webs(1, 40, 5, 2):
            text = write_web(web)
            ties = [f"{u}>{v}:" + ",".join(f"{a}.{b}" for a, b in pairs) for u, v, pairs in web.ties]
            self.assertEqual(text, " ".join(["web"] + [write_room(room)[5:] for room in web.rooms] + ties))
            self.assertEqual((read_web(text), read(text)), (web, web))

    def test_worlds(self):
        chance = chances(2)
        worlds = [World(web, *some_world(chance, web, 6)) for web in WEBS.values() for _ in range(4)] + [PAIR]
        worlds += [World(web, *full_free_parts(chance, web, 12)) for web in (FREE23, FLAT, LOOP, LINE, DOWN)]
        seen = set()
        for world in worlds:
            text = write_world(world)
            moves = []
            for rows in world.moves:
                many = len(rows[0])
                moves.append(str(many) + (":" + ",".join(".".join(map(str, row)) for row in rows[1:]) if many and len(rows) > 1 else ""))
            pairs = [",".join(f"{s}.{t}" for s, t in row) or "-" for row in world.pairs]
            self.assertEqual(text, " ".join(["world" + write_web(world.web)[3:], "spots"] + moves + pairs))
            self.assertEqual((read_world(text), read(text)), (world, world))
            seen |= {"0" in moves, "-" in pairs, any(":" not in piece for piece in moves)}
        self.assertEqual(write_world(World(FLAT, (((), ()), SWAP), ((),))), "world 2:10 2:10 0>1:0.0 spots 0 2:1.0 -")
        self.assertEqual(write_world(World(LINE, (((0, 1),),), (((0, 1), (1, 0)),))), "world 1 0>0:0.0 spots 2 0.1,1.0")
        self.assertEqual(seen, {True, False})

    def test_roads(self):
        for web in WEBS.values():
            reading, chance = Reading(web), chances(3)
            for point in range(web.points):
                for _ in range(6):
                    road = reading.some_road(chance, point, 8)
                    text = write_road(web, point, road)
                    self.assertEqual(text, "/".join(map(str, road)))
                    self.assertEqual(read_road(web, point, text), road)
                    self.assertEqual(read_road(web, point, "  " + text + " "), road)

    def test_too_long_texts(self):
        words = tuple((0,) + tuple(entry for step in range(50) for entry in (1 + ((step * step + at) % 7 > 2), 0)) for at in range(5))
        own = own_web(Web((ALONE,), ((0, 0, IDLE),) * 2), words)
        self.assertEqual(len(write_web(own)), 3 + 2 * own.points + sum(len(f" {u}>{v}:0.0") for u, v, _ in own.ties))
        wide = Web((WHOLE,), ((0, 0, IDLE),))
        large = core(wide, ((0,) + (1, 0) * 60,))
        self.assertEqual(sum(large.spots), 1440)
        check_error(self, TooMany(20000), write_world, (large,))
        check_error(self, TooMany(20000), write_world, (free_world(wide, 384),))
        # The longest text that is written, and one that is too long.
        lengths = {}
        for many in range(6, 400, 6):
            world = free_world(Web((SIX, SIX, TWO), ((0, 1, IDLE), (1, 2, IDLE))), many)
            try:
                lengths[many] = len(write_world(world))
            except TooMany as error:
                self.assertEqual(error.most, 20000)
                lengths[many] = None
        told = [many for many in lengths if lengths[many] is not None]
        self.assertTrue(told and len(told) < len(lengths) and max(lengths[many] for many in told) > 19000)
        self.assertEqual(told, list(lengths)[:len(told)])
        self.assertEqual(read_world(write_world(free_world(FREE23, 198))), free_world(FREE23, 198))

    def test_wrong_arguments(self):
        check_arguments(self, write_room, (SIX,), [rooms_wrong()])
        check_arguments(self, write_web, (FREE23,), [webs_wrong()])
        check_arguments(self, write_world, (PAIR,), [worlds_wrong()])
        check_arguments(self, write_road, (FREE23, 0, (1, 1, 2)), [webs_wrong(), numbers(-1, 2), roads_wrong((2,), (0, -1, 0), (True,), line_road(FREE23, 61))])
        self.assertEqual(len(write_road(FREE23, 0, line_road(FREE23, 60))), 2 * 121 + 30 - 1)


class ReadingTexts(unittest.TestCase):
    def test_blanks(self):
        chance = chances(4)
        for web in WEBS.values():
            text = write_web(web)
            for _ in range(4):
                self.assertEqual(read_web(blanks(chance, text)), web)
        for sign in "\t\n\r\v\f\x00,":
            check_error(self, ParseError(4), read_web, ("web " + sign + "2:10",))
            check_error(self, ParseError(4), read_web, ("web 2:10" + sign,))
            check_error(self, ParseError(0), read_web, (sign + "web 2:10",))
        self.assertEqual(read("   room   2:10  "), TWO)

    def test_spoilt_texts(self):
        chance = chances(5)
        texts = [write_web(web) for web in WEBS.values()] + [write_room(room) for room in ROOMS.values()]
        texts += [write_world(World(web, *some_world(chance, web, 4))) for web in WEBS.values()]
        readers = {"room": read_room, "web": read_web, "world": read_world}
        faults, goods = 0, 0
        for text in texts:
            for _ in range(30):
                bad = spoilt(chance, text)
                for function, heads in [(read, ("room", "web", "world"))] + [(readers[head], (head,)) for head in readers]:
                    wanted = fault_at(heads, bad)
                    told, error = made(function, bad)
                    if wanted is None:
                        goods += 1
                        self.assertTrue(error is None or error[0] is not ParseError, bad)
                    else:
                        faults += 1
                        self.assertEqual(error, (ParseError, {"at": wanted}), bad)
        self.assertGreater(min(faults, goods), 300)

    def test_pieces(self):
        for piece in ("0", "10", "2:", "2:1", "2:1,0", "2:101", "2:10,", "2:,10", "2:10,1", "02:10", "2::10", "-2:10", "2:-0", "a", "2:ab", "2;10", "\u00b2:10", "2:1\u00b2", "2.10"):
            check_error(self, ParseError(5), read_room, ("room " + piece,))
        for piece in ("0>0", "0>0:", "0>0:0", "0>0:0.0,", "0>0:0.0.0", "0>:0.0", ">0:0.0", "0>0>0:0.0", "00>0:0.0", "0>0:00.0", "0>0:-0.0", "-1>0:0.0", "0>0:0.10000",
                      "0>0:0.01", "10000>0:0.0", "0:0.0", "0>0:0,0", "0>0:.0", "0>0:0.0;1.1"):
            check_error(self, ParseError(9), read_web, ("web 2:10 " + piece,))
        for piece in ("", "1:", "2:1", "x", "01", "10000", "2:1.0,", "2:1..0", "2:1.0.", "-1", "2:1.00"):
            text = "world 2:10 spots " + piece
            self.assertEqual(made(read_world, text)[1], (InvalidWorld, {}) if re.fullmatch(MOVES, piece) else (ParseError, {"at": 17}), piece)
        for piece in ("--", "0", "0.0,", "0.0.0", ",", "-0.0", "0.-0", "00.0"):
            check_error(self, ParseError(27), read_world, ("world 2:10 0>0:0.0 spots 0 " + piece,))
        # Numbers of four digits can stand.
        check_error(self, Refused(("members", 1)), read_web, ("web 2:10 0>0:0.0,1.9999",))
        check_error(self, InvalidWeb(""), read_web, ("web 2:10 9999>0:0.0",))

    def test_pieces_that_lack(self):
        for text in ("", " ", "    "):
            for function in (read, read_room, read_web, read_world):
                check_error(self, ParseError(len(text)), function, (text,))
            check_error(self, ParseError(len(text)), read_road, (FREE23, 0, text))
        for text in ("room", "room ", "web", "web   ", "world", "world 2:10", "world 2:10 ", "world 2:10 spots", "world 2:10 0>0:0.0 spots 0", "world 2 2 spots 0 "):
            check_error(self, ParseError(len(text)), read, (text,))
        for text, at in (
            ("room 2:10 2:10", 10), ("room 2:10 x", 10), ("web 2:10 spots", 9), ("world 2:10 spots 0 0", 19), ("world spots", 6), ("web 0>0:0.0", 4),
            ("web 2:10 0>0:0.0 2:10", 17), ("world 2:10 0>0:0.0 2:10 spots", 19), ("rooms 2:10", 0), (" Room 2", 1), ("2:10", 0), ("room web", 5), ("world 2:10 spots spots", 17),
        ):
            check_error(self, ParseError(at), read, (text,))
        for function, text in ((read_room, "web 2:10"), (read_web, "room 2:10"), (read_world, "  web 2:10")):
            check_error(self, ParseError(len(text) - len(text.lstrip())), function, (text,))

    def test_what_numbers_mean_is_asked_behind(self):
        for text, wanted in (
            ("room 7", InvalidNumber(7)), ("room 9:012345678", InvalidNumber(9)), ("room 2:11", InvalidRoom("")), ("room 2:12", InvalidRoom("")),
            ("room 3:012,012,012,012,012", InvalidRoom("")), ("room 5:12340,10234", TooMany(24)), ("web 7 2:11", InvalidNumber(7)), ("web 2:11 7", InvalidRoom("")),
            ("web 2 2 2 2 2 2", InvalidWeb("")), ("web 1 " + "0>0:0.0 " * 7, InvalidWeb("")), ("web 1 0>1:0.0", InvalidWeb("")), ("web 1 0>0:0.0,0.0", InvalidWeb("")),
            ("web 1 1", Refused(("apart",))), ("web 2:10 0>0:1.1", Refused(("pairs", 1))), ("web 2:10 0>0:0.0,2.1", Refused(("members", 1))),
            ("world 7 spots 0", InvalidNumber(7)), ("world 1 1 spots x 0", ParseError(16)), ("world 1 1 spots 0 0", Refused(("apart",))),
            ("world 2:10 spots 0:0", InvalidWorld("")), ("world 2:10 spots 0:0,0", InvalidWorld("")), ("world 2:10 spots 2", InvalidWorld("")),
            ("world 2:10 spots 2:1.0,0.1", InvalidWorld("")), ("world 2:10 spots 2:1.1", InvalidWorld("")), ("world 2:10 spots 3:1.0", InvalidWorld("")),
            ("world 1 spots 401", InvalidWorld("")), ("world 1 spots 9999", InvalidWorld("")), ("world 3:120 spots 2:1.0,1.0", Refused(("moves", 0))),
            ("world 1 0>0:0.0 spots 1 0.1", InvalidWorld("")), ("world 1 0>0:0.0 spots 2 0.0,0.1", InvalidWorld("")), ("world 1 0>0:0.0 spots 2 1.0,0.1", InvalidWorld("")),
            ("world 2:10 0>0:0.0,1.1 spots 2:1.0 0.0", Refused(("pairs", 1))), ("world 1 spots 1:0", InvalidWorld("")), ("world 2:10 2 2 2 2 2 spots 0 0 0 0 0 0", InvalidWeb("")),
        ):
            check_error(self, wanted, read, (text,))
        self.assertEqual(read("world 1 spots 400").spots, (400,))
        self.assertEqual(read("world 2:10 spots 0"), World(Web.lone(TWO), (((), ()),), ()))
        self.assertEqual(read("world 1 0>0:0.0 spots 1 -"), World(LINE, (((0,),),), ((),)))
        # Makers that are not those that are written.
        self.assertEqual((read_room("room 3:120,021,012,012"), write_room(read_room("room 3:120,021"))), (SIX, "room 3:021,102"))

    def test_roads(self):
        for text, at in (
            ("1/1/2/-1/0 0", 11), ("/1", 0), ("1/", 0), ("1//1", 0), ("-0", 0), ("1/-0/1", 0), ("01", 0), ("1/01/1", 0), ("10000", 0), ("1/-10000/0", 0), ("--1", 0),
            ("-", 0), ("1,1,2", 0), ("  x", 2), ("0 /1/0", 2), ("+1", 0), ("1.0", 0), ("0\t", 0), ("0/1/0\n", 0), ("\u00b2", 0), ("0x1", 0),
        ):
            check_error(self, ParseError(at), read_road, (FREE23, 0, text))
        for text in ("2", "-1", "1/1", "1/-1/1", "1/1/3", "9999", "0/-9999/0", "/".join(map(str, line_road(FREE23, 61))), "0/2/0"):
            check_error(self, InvalidRoad(""), read_road, (FREE23, 0, text))
        self.assertEqual(read_road(FREE23, 0, write_road(FREE23, 0, line_road(FREE23, 60))), line_road(FREE23, 60))
        self.assertEqual(read_road(FREE23, 1, " 2/-1/0  "), (2, -1, 0))
        check_arguments(self, read_road, (FREE23, 0, "1/1/2"), [webs_wrong(), numbers(-1, 2), [(value, ParseError(None)) for value in NO_TEXTS]])
        check_error(self, ParseError(0), read_road, (FREE23, 0, "1x"))

    def test_wrong_texts(self):
        for value in NO_TEXTS + JUNK[:8] + (0, -1, 10 ** 99, [], [0]):
            if isinstance(value, str) and len(value) <= 20000:
                continue
            for function in (read, read_room, read_web, read_world):
                with self.assertRaises(ParseError) as caught:
                    function(value)
                self.assertIsNone(caught.exception.at)
        # A text of 20,000 signs and one more.
        text = "room 2:10"
        self.assertEqual(read(text + " " * (20000 - len(text))), TWO)
        self.assertEqual(read(" " * (20000 - len(text)) + text), TWO)
        check_error(self, ParseError(None), read, (text + " " * (20001 - len(text)),))
        check_error(self, ParseError(19999), read, (text + " " * (19999 - len(text)) + "x",))
        check_error(self, ParseError(5), read, ("room " + "9" * 19995,))
        check_error(self, ParseError(0), read, ("x" * 20000,))
        for value in NO_ROOMS[:4]:
            check_error(self, InvalidRoom(""), write_room, (value,))

    def test_large_objects_are_not_read(self):
        # [20.8]: own webs and cores can be written, but not be read.
        own = own_web(LINE, ((0,) + (1, 0) * 7,))
        self.assertEqual(own.points, 7)
        check_error(self, InvalidWeb(""), read, (write_web(own),))
        many = core(LINE, ((0,) + (1, 0) * 60,))
        self.assertEqual(read(write_world(many)), many)
        large = Web((Room.round(6), Room.round(5)), ((0, 1, IDLE),))
        world = core(large, tuple((0,) + (1, at, -1, 1) * 30 for at in range(1, 3)))
        self.assertGreater(sum(world.spots), 400)
        self.assertLess(len(write_world(world)), 20000)
        check_error(self, InvalidWorld(""), read, (write_world(world),))
        check_error(self, InvalidWeb(""), read, (write_world(core(own, ())),))


if __name__ == "__main__":
    unittest.main()
