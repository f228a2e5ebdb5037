"""Lots of a room, worked out without checking what is passed."""

from treerooms.base.checks import is_within


def lot_made(room, makers):
    """The least lot that has the makers."""
    # The room is finite, so the products alone have all contraries.
    found = {0: True}
    waiting = [0]
    while waiting:
        one = waiting.pop()
        for maker in makers:
            more = room.table[one][maker]
            if more not in found:
                found[more] = True
                waiting.append(more)
    return tuple(sorted(found))


def are_members(room, value):
    """Whether the value is a tuple of members of the room."""
    if not isinstance(value, tuple):
        return False
    return all([is_within(member, 0, room.size - 1) for member in value])


def holds_lot(room, value):
    """Whether the value is a lot of the room."""
    return are_members(room, value) and value == lot_made(room, value)


def few_makers(room, lot):
    """Members that make the lot, none of them made by those ahead of it."""
    makers = ()
    made = (0,)
    for member in lot:
        if member not in made:
            makers = makers + (member,)
            made = lot_made(room, makers)
    return makers


def turned_member(room, member, by):
    """The member, turned by another one."""
    return room.table[room.table[by][member]][room.contraries[by]]


def partings(room, lot):
    """For each member g the pair (r, a): g is r a, r the least of g's left lot."""
    parts = []
    for member in range(room.size):
        least = min([room.table[member][within] for within in lot])
        parts.append((least, room.table[room.contraries[least]][member]))
    return tuple(parts)


def every_lot(room):
    """All lots, by their sizes, then as tuples."""
    makers_of = {(0,): ()}
    waiting = [(0,)]
    while waiting:
        lot = waiting.pop()
        for member in range(room.size):
            makers = makers_of[lot] + (member,)
            more = lot_made(room, makers)
            if more not in makers_of:
                makers_of[more] = makers
                waiting.append(more)
    return tuple(sorted(makers_of, key=lambda row: (len(row), row)))
