"""Roads through a web, exchanges, and pinches."""

from treerooms.base.checks import check_number, is_integer
from treerooms.errors import InvalidNumber, InvalidRoad, Refused
from treerooms.webs.walks import is_pinch, is_walk, joined_walk, pinch_places, plain_walk, walk_back, walk_end
from treerooms.webs.webs import check_point, check_web

MAX_TIES = 60


def is_short_walk(web, point, value):
    """Whether the value is a road from the point with at most 60 ties."""
    return isinstance(value, tuple) and len(value) <= 2 * MAX_TIES + 1 and is_walk(web, point, value)


def is_short_word(web, value):
    """Whether the value is a word with at most 60 ties."""
    return is_short_walk(web, 0, value) and walk_end(web, 0, value) == 0


def check_road(web, point, value):
    """Refuse what is no road from the point with at most 60 ties."""
    if not is_short_walk(web, point, value):
        raise InvalidRoad("this is no road from the point with at most 60 ties")


def check_word(web, value):
    """Refuse what is no word with at most 60 ties."""
    if not is_short_word(web, value):
        raise InvalidRoad("this is no word with at most 60 ties")


def check_start(web, point):
    """Refuse what is no web, and then what is no point of it."""
    check_web(web)
    check_point(web, point)


def is_road(web, point, value):
    """Whether the value is a road from the point with at most 60 ties."""
    check_start(web, point)
    return is_short_walk(web, point, value)


def is_word(web, value):
    """Whether the value is a word with at most 60 ties."""
    check_web(web)
    return is_short_word(web, value)


def road_end(web, point, road):
    """The point at which the road ends."""
    check_start(web, point)
    check_road(web, point, road)
    return walk_end(web, point, road)


def joined(web, point, one, other):
    """The road `one`, with `other` from its end behind it."""
    check_start(web, point)
    check_road(web, point, one)
    check_road(web, walk_end(web, point, one), other)
    return joined_walk(web, point, one, other)


def gone_back(web, point, road):
    """The road, gone back from its end to the point."""
    check_start(web, point)
    check_road(web, point, road)
    return walk_back(web, point, road)


def exchanged(web, point, road, place, member):
    """The road behind the exchange at the tie with this place, by a member."""
    check_start(web, point)
    check_road(web, point, road)
    check_number(place, 1, len(road) // 2)
    spot = 2 * place - 1
    side = web.side(road[spot])
    if not is_integer(member) or member not in side.within:
        raise InvalidNumber(member)
    room, goal_room = web.rooms[side.source], web.rooms[side.target]
    ahead = room.table[road[spot - 1]][room.contraries[member]]
    behind = goal_room.table[side.carries[member]][road[spot + 1]]
    return road[:spot - 1] + (ahead, road[spot], behind) + road[spot + 2:]


def pinches(web, point, road):
    """All places with a pinch, ascending."""
    check_start(web, point)
    check_road(web, point, road)
    return pinch_places(web, road)


def turned_back(web, point, road, place):
    """The road, turned back at a pinch."""
    check_start(web, point)
    check_road(web, point, road)
    check_number(place, 1, len(road) // 2 - 1)
    if not is_pinch(web, road, place):
        raise Refused(("pinch",))
    spot = 2 * place
    side = web.side(road[spot + 1])
    table = web.rooms[side.target].table
    stay = table[table[road[spot - 2]][side.carries[road[spot]]]][road[spot + 2]]
    return road[:spot - 2] + (stay,) + road[spot + 3:]


def shortened(web, point, road):
    """An equal road without a pinch: the plain one."""
    check_start(web, point)
    check_road(web, point, road)
    return plain_walk(web, road)


def is_shortened(web, point, road, value):
    """Whether the value is a road without a pinch that is equal to the road."""
    check_start(web, point)
    check_road(web, point, road)
    if not is_walk(web, point, value) or pinch_places(web, value):
        return False
    return plain_walk(web, value) == plain_walk(web, road)


def least_ties(web, point, road):
    """The number of the ties of an equal road without a pinch."""
    check_start(web, point)
    check_road(web, point, road)
    return len(plain_walk(web, road)) // 2


def exchange_row(web, point, one, other):
    """The members by which exchanges lead `one` to `other`, None if none do."""
    check_start(web, point)
    check_road(web, point, one)
    check_road(web, point, other)
    if pinch_places(web, one) or pinch_places(web, other):
        raise Refused(("pinch",))
    return row_between(web, point, one, other) if one[1::2] == other[1::2] else None


def row_between(web, point, one, other):
    """As `exchange_row`, for roads with the same ties."""
    row = []
    room = web.rooms[point]
    stay = one[0]
    for spot in range(1, len(one), 2):
        side = web.side(one[spot])
        # Exchanges further on leave the stay ahead of this tie alone.
        member = room.table[room.contraries[other[spot - 1]]][stay]
        if side.carries[member] is None:
            return None
        row.append(member)
        room = web.rooms[side.target]
        stay = room.table[side.carries[member]][one[spot + 1]]
    return tuple(row) if stay == other[-1] else None
