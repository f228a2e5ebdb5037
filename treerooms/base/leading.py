"""Rooms led into rooms, and closed pairs of members of two rooms."""

from treerooms.base.checks import is_within
from treerooms.base.lots import are_members, few_makers
from treerooms.base.rooms import Room, check_lot, check_room
from treerooms.errors import InvalidOperation

MOST_PAIRS = 24


def check_rooms(one, other):
    """Refuse the first one of both that is no room."""
    check_room(one)
    check_room(other)


def are_pairs_of(one, other, value):
    """Whether the value is a tuple of pairs of a member of each room."""
    return isinstance(value, tuple) and all([is_pair_of(one, other, pair) for pair in value])


def is_pair_of(one, other, value):
    """Whether the value is a pair of a member of `one` and one of `other`."""
    if not isinstance(value, tuple) or len(value) != 2:
        return False
    return is_within(value[0], 0, one.size - 1) and is_within(value[1], 0, other.size - 1)


def closed_pairs(one, other, some):
    """The least closed pairs that have some pairs, as a dict; None if none have them."""
    goals = {0: 0}
    origins = {0: 0}
    waiting = [0]
    while waiting:
        member = waiting.pop()
        for step, goal_step in some:
            more = one.table[member][step]
            goal = other.table[goals[member]][goal_step]
            if goals.get(more, goal) != goal or origins.get(goal, more) != more:
                return None
            if more not in goals:
                goals[more] = goal
                origins[goal] = more
                waiting.append(more)
    return goals


def leadings_with(one, other, some):
    """All leadings that have some pairs, ascending."""
    goals = closed_pairs(one, other, some)
    if goals is None:
        return []
    open_members = [member for member in range(one.size) if member not in goals]
    if not open_members:
        return [tuple([goals[member] for member in range(one.size)])]
    # The first open member is the first index at which leadings can differ.
    found = []
    for goal in range(other.size):
        found.extend(leadings_with(one, other, some + ((open_members[0], goal),)))
    return found


def is_leading(one, other, value):
    """Whether the value is a leading of the first room into the second one."""
    check_rooms(one, other)
    if not are_members(other, value) or len(value) != one.size:
        return False
    return closed_pairs(one, other, tuple(enumerate(value))) is not None


def leadings(one, other):
    """All leadings of the first room into the second one, ascending."""
    check_rooms(one, other)
    for row in leadings_with(one, other, ()):
        yield row


def renamings(one, other):
    """All renamings of the first room onto the second one, ascending."""
    check_rooms(one, other)
    if one.size != other.size:
        return ()
    return tuple(leadings_with(one, other, ()))


def are_one_kind(one, other):
    """Whether there is a renaming of the first room onto the second one."""
    return len(renamings(one, other)) > 0


def room_of_lot(room, lot):
    """The room of the members of a lot."""
    check_room(room)
    check_lot(room, lot)
    return Room(room.points, tuple([room.members[maker] for maker in few_makers(room, lot)]))


def pairs_made(one, other, some):
    """The least closed pairs with some pairs, ascending; None if there are none."""
    check_rooms(one, other)
    if not are_pairs_of(one, other, some) or len(some) > MOST_PAIRS:
        raise InvalidOperation("pairs are a tuple of at most 24 pairs of members of the rooms")
    goals = closed_pairs(one, other, some)
    return None if goals is None else tuple(sorted(goals.items()))


def is_pairs(one, other, value):
    """Whether the value is an ascending tuple of closed pairs."""
    check_rooms(one, other)
    if not are_pairs_of(one, other, value):
        return False
    goals = closed_pairs(one, other, value)
    return goals is not None and value == tuple(sorted(goals.items()))
