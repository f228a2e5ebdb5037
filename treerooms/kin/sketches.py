"""Slides, turned ties and renamings of rooms and ties, worked out without making webs of them."""

from treerooms.base.checks import is_within
from treerooms.base.leading import closed_pairs
from treerooms.base.lots import are_members
from treerooms.base.permutations import is_permutation
from treerooms.base.rooms import Room


def told_from(ties, tie):
    """A tie as it is told from where the directed tie begins; gone back, its pairs are not sorted."""
    begin, end, pairs = ties[abs(tie) - 1]
    if tie > 0:
        return begin, end, pairs
    return end, begin, tuple([(goal, member) for member, goal in pairs])


def with_told(ties, tie, begin, end, pairs):
    """The ties with another one in the place of a directed tie, told from where it begins."""
    number = abs(tie)
    if tie < 0:
        begin, end, pairs = end, begin, [(goal, member) for member, goal in pairs]
    return ties[:number - 1] + ((begin, end, tuple(sorted(pairs))),) + ties[number:]


def slid_ties(ties, tie, over):
    """The ties behind the slide of a directed tie over another one, None if it is not let."""
    begin, end, pairs = told_from(ties, tie)
    over_begin, over_end, over_pairs = told_from(ties, over)
    if begin != over_begin or abs(tie) == abs(over):
        return None
    carries = dict(over_pairs)
    if not all([member in carries for member, _ in pairs]):
        return None
    return with_told(ties, tie, over_end, end, [(carries[member], goal) for member, goal in pairs])


def turned_ties(rooms, ties, tie, by):
    """The ties behind turning a directed tie by a member."""
    begin, end, pairs = told_from(ties, tie)
    table, undo = rooms[begin].table, rooms[begin].contraries[by]
    row = table[by]
    return with_told(ties, tie, begin, end, [(table[row[member]][undo], goal) for member, goal in pairs])


def is_renaming(room, other, value):
    """Whether the value is a renaming of the room onto the other one."""
    if room.size != other.size or not are_members(other, value) or len(value) != room.size:
        return False
    return closed_pairs(room, other, tuple(enumerate(value))) is not None


def are_rooms_for(rooms, value):
    """Whether the value is a tuple of as many rooms."""
    return isinstance(value, tuple) and len(value) == len(rooms) and all([isinstance(room, Room) for room in value])


def are_names(rooms, size, others, value):
    """Whether the value has points, renamings onto the other rooms and names of so many ties."""
    if not isinstance(value, tuple) or len(value) != 3:
        return False
    points, renamings, names = value
    if not is_permutation(points, len(rooms)) or not are_tie_names(size, names):
        return False
    if not isinstance(renamings, tuple) or len(renamings) != len(rooms):
        return False
    return all([is_renaming(room, others[goal], row) for room, goal, row in zip(rooms, points, renamings)])


def are_tie_names(size, value):
    """Whether the value has so many directed ties, all of unlike numbers."""
    if not isinstance(value, tuple) or len(value) != size:
        return False
    if not all([is_within(name, -size, size) for name in value]):
        return False
    return sorted([abs(name) for name in value]) == list(range(1, size + 1))


def renamed_ties(ties, points, renamings, names):
    """The ties of the renamed web."""
    found = list(ties)
    for (begin, end, pairs), name in zip(ties, names):
        row = [(renamings[begin][member], renamings[end][goal]) for member, goal in pairs]
        if name > 0:
            found[name - 1] = (points[begin], points[end], tuple(sorted(row)))
        else:
            found[-name - 1] = (points[end], points[begin], tuple(sorted([(goal, member) for member, goal in row])))
    return tuple(found)
