"""Texts of rooms, webs, roads and worlds."""

from treerooms.base.lots import few_makers
from treerooms.base.rooms import Room, check_room
from treerooms.errors import InvalidRoad, ParseError, TooMany
from treerooms.text.pieces import Pieces, moves_told, road_told, room_told, spots_told, tie_told
from treerooms.webs.roads import check_road, check_start, is_short_walk
from treerooms.webs.webs import Web, check_web
from treerooms.worlds.worlds import World, check_world

MAX_TEXT = 20000


def checked(pieces):
    """The text of some pieces, which is refused if it is too long."""
    text = " ".join(pieces)
    if len(text) > MAX_TEXT:
        raise TooMany(MAX_TEXT)
    return text


def with_rows(head, rows):
    """The head, and behind `:` the rows, if there are any, with `,` between two of them."""
    return head + ":" + ",".join(rows) if rows else head


def room_piece(room):
    """The piece that tells a room."""
    makers = few_makers(room, tuple(range(room.size)))
    rows = ["".join([str(goal) for goal in room.members[maker]]) for maker in makers]
    return with_rows(str(room.points), rows)


def pair_texts(pairs):
    """Each pair as two numbers with `.` between them."""
    return [f"{one}.{other}" for one, other in pairs]


def web_pieces(web):
    """The pieces for the rooms and the ties of a web."""
    ties = [with_rows(f"{begin}>{end}", pair_texts(pairs)) for begin, end, pairs in web.ties]
    return [room_piece(room) for room in web.rooms] + ties


def moves_piece(rows):
    """The piece that tells how a room moves its spots."""
    many = len(rows[0])
    texts = [".".join([str(goal) for goal in row]) for row in rows[1:]]
    return with_rows(str(many), texts if many > 0 else [])


def write_room(room):
    """The text of a room."""
    check_room(room)
    return checked(["room", room_piece(room)])


def write_web(web):
    """The text of a web."""
    check_web(web)
    return checked(["web"] + web_pieces(web))


def write_road(web, point, road):
    """The text of a road from the point."""
    check_start(web, point)
    check_road(web, point, road)
    return checked(["/".join([str(entry) for entry in road])])


def write_world(world):
    """The text of a world."""
    check_world(world)
    moves = [moves_piece(rows) for rows in world.moves]
    pairs = [",".join(pair_texts(row)) if row else "-" for row in world.pairs]
    return checked(["world"] + web_pieces(world.web) + ["spots"] + moves + pairs)


def pieces_of(text):
    """The pieces of a text."""
    if not isinstance(text, str) or len(text) > MAX_TEXT:
        raise ParseError(None)
    return Pieces(text)


def room_made(told):
    """The room of a room piece."""
    points, makers = told
    return Room(points, makers)


def web_made(rooms, ties):
    """The web of room pieces and tie pieces."""
    return Web(tuple([room_made(told) for told in rooms]), ties)


def moves_made(room, told):
    """The moves of the spots by a room, of a moves piece."""
    many, rows = told
    if many == 0 and not rows:
        return ((),) * room.size
    return (tuple(range(many)), *rows)


def room_behind(pieces):
    """The room that the pieces behind the first word tell."""
    told = pieces.take(room_told)
    pieces.end()
    return room_made(told)


def rooms_and_ties(pieces):
    """What room pieces, at least one, and tie pieces behind them tell."""
    first = pieces.take(room_told)
    rooms = (first,) + pieces.take_all(room_told)
    return rooms, pieces.take_all(tie_told)


def web_behind(pieces):
    """The web that the pieces behind the first word tell."""
    rooms, ties = rooms_and_ties(pieces)
    pieces.end()
    return web_made(rooms, ties)


def world_behind(pieces):
    """The world that the pieces behind the first word tell."""
    rooms, ties = rooms_and_ties(pieces)
    pieces.take_word(("spots",))
    moves = [pieces.take(moves_told) for _ in rooms]
    pairs = tuple([pieces.take(spots_told) for _ in ties])
    pieces.end()
    web = web_made(rooms, ties)
    return World(web, tuple([moves_made(room, told) for room, told in zip(web.rooms, moves)]), pairs)


def read_room(text):
    """The room that a text tells."""
    pieces = pieces_of(text)
    pieces.take_word(("room",))
    return room_behind(pieces)


def read_web(text):
    """The web that a text tells."""
    pieces = pieces_of(text)
    pieces.take_word(("web",))
    return web_behind(pieces)


def read_world(text):
    """The world that a text tells."""
    pieces = pieces_of(text)
    pieces.take_word(("world",))
    return world_behind(pieces)


def read(text):
    """The room, the web or the world that a text tells."""
    pieces = pieces_of(text)
    head = pieces.take_word(("room", "web", "world"))
    if head == "room":
        return room_behind(pieces)
    return web_behind(pieces) if head == "web" else world_behind(pieces)


def read_road(web, point, text):
    """The road from the point that a text tells."""
    check_start(web, point)
    pieces = pieces_of(text)
    road = pieces.take(road_told)
    pieces.end()
    if not is_short_walk(web, point, road):
        raise InvalidRoad("this is no road from the point with at most 60 ties")
    return road
