"""Rooms: finite groups of permutations, told by the numbers of their members."""

from treerooms.base.checks import check_number
from treerooms.base.lots import are_members, every_lot, holds_lot, lot_made, partings, turned_member
from treerooms.base.permutations import all_products, exchange, is_permutation, product_table
from treerooms.errors import InvalidOperation, InvalidRoom, TooMany

MAX_POINTS = 6
MAX_MAKERS = 4
MAX_MEMBERS = 24
MOST_POWER = 20

# The room of all permutations of five points has more than 24 members.
MOST_WHOLE = 4
# So many members are passed at once, also with repeats.
MOST_GIVEN = 24


class Room:
    """All products of some permutations of some points; it never changes."""

    def __init__(self, points, makers):
        check_number(points, 1, MAX_POINTS)
        if not are_makers(makers, points):
            raise InvalidRoom("makers are a tuple of at most four permutations of the points")
        members = all_products(points, makers, MAX_MEMBERS)
        if members is None:
            raise TooMany(MAX_MEMBERS)
        self._points = points
        self._members = members
        self._table = product_table(members)
        self._contraries = tuple([row.index(0) for row in self._table])

    @classmethod
    def round(cls, size):
        """The room of `size` points that is made by (1, 2, .., 0)."""
        check_number(size, 1, MAX_POINTS)
        return cls(size, (tuple([(point + 1) % size for point in range(size)]),))

    @classmethod
    def whole(cls, points):
        """The room of all permutations of so many points."""
        check_number(points, 1, MOST_WHOLE)
        return cls(points, tuple([exchange(points, at) for at in range(points - 1)]))

    @property
    def points(self):
        """The number of the points."""
        return self._points

    @property
    def members(self):
        """The permutations, ascending."""
        return self._members

    @property
    def size(self):
        """The number of the members."""
        return len(self._members)

    @property
    def table(self):
        """Row a has at b the number of the product a b."""
        return self._table

    @property
    def contraries(self):
        """The contrary of each member."""
        return self._contraries

    def product(self, one, other):
        """The member that does `one` first, then `other`."""
        check_member(self, one)
        check_member(self, other)
        return self._table[one][other]

    def contrary(self, member):
        """The member that undoes a member."""
        check_member(self, member)
        return self._contraries[member]

    def order(self, member):
        """The least number, from 1 on, of equal members whose product is 0."""
        check_member(self, member)
        many = 1
        reached = member
        while reached != 0:
            reached = self._table[reached][member]
            many += 1
        return many

    def power(self, member, many):
        """The product of so many equal members, below 0 of contraries."""
        check_member(self, member)
        check_number(many, -MOST_POWER, MOST_POWER)
        step = member if many >= 0 else self._contraries[member]
        reached = 0
        for _ in range(abs(many)):
            reached = self._table[reached][step]
        return reached

    def number_of(self, permutation):
        """The number of the member that is this permutation."""
        if not is_permutation(permutation, self._points) or permutation not in self._members:
            raise InvalidOperation("this is no permutation of the room")
        return self._members.index(permutation)

    def __eq__(self, other):
        return isinstance(other, Room) and self._points == other._points and self._members == other._members

    def __len__(self):
        return len(self._members)

    def __iter__(self):
        return iter(self._members)

    def __str__(self):
        return f"room of {self._points} points, {len(self._members)} members"


def are_makers(value, points):
    """Whether the value is a tuple of at most four permutations of so many points."""
    if not isinstance(value, tuple) or len(value) > MAX_MAKERS:
        return False
    return all([is_permutation(maker, points) for maker in value])


def check_room(value):
    """Refuse what is no room."""
    if not isinstance(value, Room):
        raise InvalidRoom("a room is an object of Room")


def check_member(room, value):
    """Refuse what is no member of the room."""
    check_number(value, 0, room.size - 1)


def check_lot(room, value):
    """Refuse what is no lot of the room."""
    if not holds_lot(room, value):
        raise InvalidOperation("this is no lot of the room")


def lot_of(room, members):
    """The least lot of the room that has some members."""
    check_room(room)
    if not are_members(room, members) or len(members) > MOST_GIVEN:
        raise InvalidOperation("members are a tuple of at most 24 members of the room")
    return lot_made(room, members)


def is_lot(room, value):
    """Whether the value is a lot of the room."""
    check_room(room)
    return holds_lot(room, value)


def left_lots(room, lot):
    """All left lots by the lot, each ascending, ascending."""
    check_room(room)
    check_lot(room, lot)
    parts = partings(room, lot)
    leasts = [member for member in range(room.size) if parts[member][0] == member]
    return tuple([tuple(sorted([room.table[least][within] for within in lot])) for least in leasts])


def parted(room, lot, member):
    """The pair (r, a): the member is r a, r the least of its left lot, a in the lot."""
    check_room(room)
    check_lot(room, lot)
    check_member(room, member)
    return partings(room, lot)[member]


def turned(room, member, by):
    """The member c g c^-1, g being `member` and c being `by`."""
    check_room(room)
    check_member(room, member)
    check_member(room, by)
    return turned_member(room, member, by)


def classes(room):
    """All classes of the room, each ascending, ascending."""
    check_room(room)
    found = {}
    for member in range(room.size):
        alike = sorted({turned_member(room, member, by) for by in range(room.size)})
        found[tuple(alike)] = True
    return tuple(sorted(found))


def lots(room):
    """All lots of the room, by their sizes, then as tuples."""
    check_room(room)
    return every_lot(room)
