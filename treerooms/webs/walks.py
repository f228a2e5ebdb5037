"""Roads of any length, worked out without checking what is passed."""

from treerooms.base.checks import is_within


def is_walk(web, point, value):
    """Whether the value is a road from the point, with any number of ties."""
    if not isinstance(value, tuple) or len(value) % 2 == 0:
        return False
    sizes, exits = web.sizes, web.exits
    at = point
    for stay, tie in zip(value[::2], value[1::2]):
        if type(stay) is not int or type(tie) is not int or not 0 <= stay < sizes[at] or tie not in exits[at]:
            return False
        at = exits[at][tie]
    return is_stay(web, at, value[-1])


def is_any_word(web, value):
    """Whether the value is a word, with any number of ties."""
    return is_walk(web, 0, value) and walk_end(web, 0, value) == 0


def is_stay(web, point, value):
    """Whether the value is a member of the room at the point."""
    return is_within(value, 0, web.sizes[point] - 1)


def walk_end(web, point, road):
    """The point at which a road from the point ends."""
    return web.side(road[-2]).target if len(road) > 1 else point


def joined_walk(web, point, one, other):
    """The road `one` from the point with `other` behind it."""
    room = web.rooms[walk_end(web, point, one)]
    return one[:-1] + (room.table[one[-1]][other[0]],) + other[1:]


def walk_back(web, point, road):
    """The road from the point, gone back."""
    ahead = []
    at = point
    for spot in range(0, len(road) - 1, 2):
        ahead.append(web.rooms[at].contraries[road[spot]])
        ahead.append(-road[spot + 1])
        at = web.side(road[spot + 1]).target
    return (web.rooms[at].contraries[road[-1]], *ahead[::-1])


def pinch_places(web, road):
    """The places of all pinches of a road, ascending."""
    return tuple([place for place in range(1, len(road) // 2) if is_pinch(web, road, place)])


def is_pinch(web, road, place):
    """Whether there is a pinch at the stay behind the tie with this place."""
    tie, stay, behind = road[2 * place - 1:2 * place + 2]
    return behind == -tie and web.side(behind).carries[stay] is not None


def plain_walk(web, road):
    """The plain road that is equal to a road, wherever it begins."""
    sides = web.sides
    done = []
    stay = road[0]
    for tie, behind in zip(road[1::2], road[2::2]):
        side = sides[tie]
        least, carried = side.carried_parts[stay]
        if least == 0 and done and done[-1] == -tie:
            done.pop()
            carried = side.goal_table[done.pop()][carried]
        else:
            done.append(least)
            done.append(tie)
        stay = side.goal_table[carried][behind]
    return (*done, stay)


def is_plain_walk(web, point, value):
    """Whether the value is a plain road from the point, with any number of ties."""
    return is_walk(web, point, value) and plain_walk(web, value) == value


def steps_behind(web, point, last):
    """The pairs (stay, tie) that a plain road can go on with, ascending.

    It is at the point, behind the tie `last`, or behind none if that is 0.
    """
    steps = []
    for tie in web.beginnings(point):
        # The stay 0 ahead of the way back would be a pinch.
        steps.extend([(least, tie) for least in web.side(tie).leasts if least != 0 or tie != -last])
    return sorted(steps)
