"""The tree: places, neighbours, and how words move places."""

from treerooms.errors import InvalidRoad
from treerooms.base.lots import turned_member
from treerooms.webs.roads import check_road, check_word
from treerooms.webs.walks import is_plain_walk, joined_walk, plain_walk, steps_behind, walk_back, walk_end
from treerooms.webs.webs import check_web

MOST_TIES = 60


def is_place_of(web, value):
    """Whether the value is a place of the web, with any number of ties."""
    # The last stay of a plain road is free, so 0 stands for all of them.
    return isinstance(value, tuple) and is_plain_walk(web, 0, value + (0,))


def check_place(web, value):
    """Refuse what is no place with at most 60 ties."""
    if not is_place_of(web, value) or len(value) > 2 * MOST_TIES:
        raise InvalidRoad("this is no place with at most 60 ties")


def check_places(web, one, other):
    """Refuse what is no web, and then the first one of both that is no place."""
    check_web(web)
    check_place(web, one)
    check_place(web, other)


def point_at(web, place):
    """The point at which a place is."""
    return walk_end(web, 0, place + (0,))


def is_place(web, value):
    """Whether the value is a place, with any number of ties."""
    check_web(web)
    return is_place_of(web, value)


def place_of(web, road):
    """The place of a road from the point 0."""
    check_web(web)
    check_road(web, 0, road)
    return plain_walk(web, road)[:-1]


def point_of(web, place):
    """The point at which a place is."""
    check_web(web)
    check_place(web, place)
    return point_at(web, place)


def neighbours(web, place):
    """The neighbours of a place, ascending."""
    check_web(web)
    check_place(web, place)
    last = place[-1] if place else 0
    found = [(*place, stay, tie) for stay, tie in steps_behind(web, point_at(web, place), last)]
    if place:
        found.append(place[:-2])
    return tuple(sorted(found))


def shared_length(one, other):
    """How many stays and ties the last place has that is on the ways to both."""
    length = 0
    while length < min(len(one), len(other)) and one[length:length + 2] == other[length:length + 2]:
        length += 2
    return length


def way(web, one, other):
    """The places of the way from one place to the other one, both included."""
    check_places(web, one, other)
    shared = shared_length(one, other)
    back = [one[:length] for length in range(len(one), shared, -2)]
    ahead = [other[:length] for length in range(shared, len(other) + 1, 2)]
    return tuple(back + ahead)


def distance(web, one, other):
    """The number of the steps of the way."""
    check_places(web, one, other)
    return steps_between(one, other)


def steps_between(one, other):
    """The distance of two places, of any length."""
    return (len(one) + len(other)) // 2 - shared_length(one, other)


def moved(web, word, place):
    """The place to which a word moves a place."""
    check_web(web)
    check_word(web, word)
    check_place(web, place)
    return place_moved(web, word, place)


def place_moved(web, word, place):
    """The place to which a word moves a place, both of any length."""
    return plain_walk(web, joined_walk(web, 0, word, place + (0,)))[:-1]


def stayers(web, place):
    """The plain words that leave a place, in the sequence of the members."""
    check_web(web)
    check_place(web, place)
    back = walk_back(web, 0, place + (0,))
    room = web.rooms[point_at(web, place)]
    words = [joined_walk(web, 0, (*place, member), back) for member in range(room.size)]
    return tuple([plain_walk(web, word) for word in words])


def still_lots(web):
    """The still lots, one for each point."""
    check_web(web)
    return greatest_lots(web)


def greatest_lots(web):
    """The greatest lots that are turned to themselves and carried to one another."""
    found = tuple([tuple(range(room.size)) for room in web.rooms])
    while True:
        kept = tuple([members_kept(web, point, found) for point in range(web.points)])
        if kept == found:
            return found
        found = kept


def members_kept(web, point, found):
    """The members at the point that are turned and carried into what is found so far."""
    return tuple([member for member in found[point] if is_kept(web, point, member, found)])


def is_kept(web, point, member, found):
    """Whether a member is turned and carried into what is found so far."""
    room = web.rooms[point]
    sides = [web.side(tie) for tie in web.beginnings(point)]
    if not all([turned_member(room, member, by) in found[point] for by in range(room.size)]):
        return False
    return all([side.carries[member] in found[side.target] for side in sides])


def is_still(web, word):
    """Whether a word leaves all places."""
    check_web(web)
    check_word(web, word)
    form = plain_walk(web, word)
    return len(form) == 1 and form[0] in greatest_lots(web)[0]
