"""Slides, turned ties and renamings, and webs that are kin."""

from treerooms.base.checks import is_within
from treerooms.base.rooms import check_member
from treerooms.errors import InvalidOperation, TooMany
from treerooms.kin.search import steps_found
from treerooms.kin.sketches import are_names, are_rooms_for, renamed_ties, slid_ties, turned_ties
from treerooms.webs.webs import MadeWeb, check_tie, check_web, is_needed, is_tie

MAX_MEMBERS = 6
MAX_TIES = 3

# So many steps stand in a row at most.
MOST_STEPS = 2000


def slid(web, tie, over):
    """The web in which a directed tie begins where another one, over which it slides, ends."""
    check_web(web)
    check_tie(web, tie)
    check_tie(web, over)
    ties = slid_ties(web.ties, tie, over)
    if ties is None:
        raise InvalidOperation("a tie slides over another one from its begin, the lot of which has its own lot")
    return MadeWeb(web.rooms, ties)


def tie_turned(web, tie, member):
    """The web in which a directed tie is turned by a member of the room where it begins."""
    check_web(web)
    check_tie(web, tie)
    check_member(web.rooms[web.side(tie).source], member)
    return MadeWeb(web.rooms, turned_ties(web.rooms, web.ties, tie, member))


def renamed(web, rooms, points, renamings, ties):
    """The web with new rooms, and with other names for points, members and ties."""
    check_web(web)
    if not are_rooms_for(web.rooms, rooms) or not are_names(web.rooms, web.size, rooms, (points, renamings, ties)):
        raise InvalidOperation("a renaming has rooms, points, renamings of rooms and directed ties")
    return MadeWeb(rooms, renamed_ties(web.ties, points, renamings, ties))


def check_needed(one, other):
    """Refuse what is no web, and then the first web with a tie that is not needed."""
    check_web(one)
    check_web(other)
    for web in (one, other):
        if not all([is_needed(web, tie) for tie in web.ties]):
            raise InvalidOperation("all ties of webs that are compared are needed")


def check_small(one, other):
    """Refuse webs with too many members in a room, and then webs with too many ties."""
    if not all([room.size <= MAX_MEMBERS for room in one.rooms + other.rooms]):
        raise TooMany(MAX_MEMBERS)
    if max(one.size, other.size) > MAX_TIES:
        raise TooMany(MAX_TIES)


def kin_steps(one, other):
    """A row of steps that leads the first web to the second one, None if they are not kin."""
    check_needed(one, other)
    check_small(one, other)
    return steps_found(one, other)


def are_kin(one, other):
    """Whether the webs are kin."""
    check_needed(one, other)
    check_small(one, other)
    return steps_found(one, other) is not None


def is_kin_steps(one, other, value):
    """Whether the value is a row of at most 2,000 steps that leads the first web to the second one."""
    check_needed(one, other)
    if not isinstance(value, tuple) or not 1 <= len(value) <= MOST_STEPS:
        return False
    ties = one.ties
    for step in value[:-1]:
        ties = ties_behind(one, ties, step)
        if ties is None:
            return False
    return does_name(one, ties, value[-1], other)


def ties_behind(web, ties, step):
    """The ties behind a slide or a turn, None for anything else and for what is not let."""
    if not isinstance(step, tuple) or len(step) != 3 or not is_tie(web, step[1]):
        return None
    head, tie, by = step
    if head == "slide":
        return slid_ties(ties, tie, by) if is_tie(web, by) else None
    if head != "turn":
        return None
    begin, end, _ = ties[abs(tie) - 1]
    room = web.rooms[begin if tie > 0 else end]
    return turned_ties(web.rooms, ties, tie, by) if is_within(by, 0, room.size - 1) else None


def does_name(web, ties, step, other):
    """Whether the value is a step that renames the web with these ties as the other one."""
    if not isinstance(step, tuple) or len(step) != 4 or step[0] != "names" or web.points != other.points:
        return False
    if web.size != other.size or not are_names(web.rooms, web.size, other.rooms, step[1:]):
        return False
    _, points, renamings, names = step
    return renamed_ties(ties, points, renamings, names) == other.ties
