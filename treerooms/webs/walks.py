"""Roads of any length, worked out without checking what is passed."""

from treerooms.base.checks import is_within
from treerooms.webs.webs import is_tie


def is_walk(web, point, value):
    """Whether the value is a road from the point, with any number of ties."""
    if not isinstance(value, tuple) or len(value) % 2 == 0:
        return False
    at = point
    for spot in range(0, len(value) - 1, 2):
        stay, tie = value[spot], value[spot + 1]
        if not is_stay(web, at, stay) or not is_tie(web, tie) or web.side(tie).source != at:
            return False
        at = web.side(tie).target
    return is_stay(web, at, value[-1])


def is_any_word(web, value):
    """Whether the value is a word, with any number of ties."""
    return is_walk(web, 0, value) and walk_end(web, 0, value) == 0


def is_stay(web, point, value):
    """Whether the value is a member of the room at the point."""
    return is_within(value, 0, web.rooms[point].size - 1)


def walk_end(web, point, road):
    """The point at which a road from the point ends."""
    return web.side(road[-2]).target if len(road) > 1 else point


def joined_walk(web, point, one, other):
    """The road `one` from the point with `other` behind it."""
    room = web.rooms[walk_end(web, point, one)]
    return one[:-1] + (room.table[one[-1]][other[0]],) + other[1:]


def walk_back(web, point, road):
    """The road from the point, gone back."""
    ahead = []
    at = point
    for spot in range(0, len(road) - 1, 2):
        ahead.append(web.rooms[at].contraries[road[spot]])
        ahead.append(-road[spot + 1])
        at = web.side(road[spot + 1]).target
    return (web.rooms[at].contraries[road[-1]], *ahead[::-1])


def pinch_places(web, road):
    """The places of all pinches of a road, ascending."""
    return tuple([place for place in range(1, len(road) // 2) if is_pinch(web, road, place)])


def is_pinch(web, road, place):
    """Whether there is a pinch at the stay behind the tie with this place."""
    tie, stay, behind = road[2 * place - 1:2 * place + 2]
    return behind == -tie and web.side(behind).carries[stay] is not None


def plain_walk(web, road):
    """The plain road that is equal to a road, wherever it begins."""
    done = []
    stay = road[0]
    for spot in range(1, len(road), 2):
        side = web.side(road[spot])
        table = web.rooms[side.target].table
        least, rest = side.parts[stay]
        carried = side.carries[rest]
        if least == 0 and done and done[-1] == -road[spot]:
            done.pop()
            carried = table[done.pop()][carried]
        else:
            done.extend([least, road[spot]])
        stay = table[carried][road[spot + 1]]
    return (*done, stay)


def is_plain_walk(web, point, value):
    """Whether the value is a plain road from the point, with any number of ties."""
    return is_walk(web, point, value) and plain_walk(web, value) == value


def steps_behind(web, point, last):
    """The pairs (stay, tie) that a plain road can go on with, ascending.

    It is at the point, behind the tie `last`, or behind none if that is 0.
    """
    steps = []
    for tie in web.beginnings(point):
        # The stay 0 ahead of the way back would be a pinch.
        steps.extend([(least, tie) for least in web.side(tie).leasts if least != 0 or tie != -last])
    return sorted(steps)
