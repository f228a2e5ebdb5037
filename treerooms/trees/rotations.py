"""Rotations of cores, and the members that lead one to another one."""

from treerooms.webs.roads import row_between
from treerooms.webs.walks import joined_walk, plain_walk, walk_back


def beginning_ahead(web, point, core, tie):
    """The road from the point along the core, to the stay ahead of its tie with this index.

    For the first tie it is the last stay gone back.
    """
    if tie == 0:
        return (web.rooms[point].contraries[core[-1]],)
    return (*core[:2 * tie], 0)


def rotated(web, point, core, tie):
    """The rotation of the core that begins at the stay ahead of its tie with this index."""
    around = joined_walk(web, point, core, beginning_ahead(web, point, core, tie))
    if tie == 0:
        room = web.rooms[point]
        return (room.table[core[-1]][core[0]], *around[1:])
    return around[2 * tie:]


def member_between(web, point, one, other):
    """A member c for which c `one` c^-1 is equal to `other`, None if there is none.

    Both are cores at the point with the same ties, whose last stays are 0.
    """
    room = web.rooms[point]
    for within in web.side(one[1]).within:
        by = room.table[room.table[other[0]][within]][room.contraries[one[0]]]
        turned = (room.table[by][one[0]], *one[1:-1], room.contraries[by])
        if row_between(web, point, turned, other) is not None:
            return by
    return None


def road_between(web, point, core, other_point, other_core):
    """A road c from the other point for which c `core` c^-1 equals the other core, None if there is none."""
    goal = rotated(web, other_point, other_core, 0)
    start = beginning_ahead(web, other_point, other_core, 0)
    for tie in range(len(core) // 2):
        around = rotated(web, point, core, tie)
        if around[1::2] == goal[1::2]:
            by = member_between(web, other_point, around, goal)
            if by is not None:
                back = walk_back(web, point, beginning_ahead(web, point, core, tie))
                return plain_walk(web, joined_walk(web, other_point, joined_walk(web, other_point, start, (by,)), back))
    return None
