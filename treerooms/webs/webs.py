"""Webs: rooms at points, and ties that identify parts of them."""

from math import gcd

from treerooms.base.checks import check_number, is_count, is_within
from treerooms.base.leading import is_pairs
from treerooms.base.rooms import Room, check_member, check_room
from treerooms.errors import InvalidNumber, InvalidOperation, InvalidWeb, Refused
from treerooms.webs.sides import beginnings_of, sides_of

MAX_POINTS = 5
MAX_TIES = 6


class Web:
    """Rooms that hang together by ties; it never changes."""

    def __init__(self, rooms, ties):
        fault = web_fault(rooms, ties)
        if fault is not None:
            raise Refused(fault)
        self._keep_rooms(rooms, ties)

    def _keep_rooms(self, rooms, ties):
        self._rooms = rooms
        self._ties = ties
        self._sides = sides_of(rooms, ties)
        self._beginnings = beginnings_of(len(rooms), ties)
        self._sizes = tuple([room.size for room in rooms])
        self._exits = tuple([{tie: self._sides[tie].target for tie in row} for row in self._beginnings])

    @classmethod
    def lone(cls, room):
        """The web of one room without ties."""
        check_room(room)
        return cls((room,), ())

    @property
    def rooms(self):
        """The rooms, by their points."""
        return self._rooms

    @property
    def ties(self):
        """The ties, from the tie 1 on."""
        return self._ties

    @property
    def points(self):
        """The number of the points."""
        return len(self._rooms)

    @property
    def size(self):
        """The number of the ties."""
        return len(self._ties)

    @property
    def sizes(self):
        """The numbers of the members of the rooms."""
        return self._sizes

    @property
    def sides(self):
        """All that is told of the directed ties, by these."""
        return self._sides

    @property
    def exits(self):
        """For each point the points to which the directed ties lead that begin there, by these, ascending."""
        return self._exits

    def side(self, tie):
        """All that is told of a directed tie, which is not checked here."""
        return self._sides[tie]

    def begin(self, tie):
        """The point at which a directed tie begins."""
        check_tie(self, tie)
        return self._sides[tie].source

    def end(self, tie):
        """The point at which a directed tie ends."""
        check_tie(self, tie)
        return self._sides[tie].target

    def lot(self, tie):
        """The lot of a directed tie, at the point where it begins."""
        check_tie(self, tie)
        return self._sides[tie].within

    def carried(self, tie, member):
        """What a member of the lot of a directed tie is carried to."""
        check_tie(self, tie)
        side = self._sides[tie]
        check_member(self._rooms[side.source], member)
        if side.carries[member] is None:
            raise InvalidOperation("the member is not in the lot of the tie")
        return side.carries[member]

    def beginnings(self, point):
        """The directed ties that begin at a point, ascending."""
        check_point(self, point)
        return self._beginnings[point]

    def __eq__(self, other):
        return isinstance(other, Web) and self._rooms == other._rooms and self._ties == other._ties

    def __len__(self):
        return len(self._ties)

    def __str__(self):
        return f"web of {len(self._rooms)} rooms, {len(self._ties)} ties"


class MadeWeb(Web):
    """A web that was worked out here, so it has no fault, and any number of rooms and ties."""

    def __init__(self, rooms, ties):
        self._keep_rooms(rooms, ties)


def check_web(value):
    """Refuse what is no web."""
    if not isinstance(value, Web):
        raise InvalidWeb("a web is an object of Web")


def check_point(web, value):
    """Refuse what is no point of the web."""
    check_number(value, 0, web.points - 1)


def is_tie(web, value):
    """Whether the value is a directed tie of the web."""
    return is_within(value, -web.size, web.size) and value != 0


def check_tie(web, value):
    """Refuse what is no directed tie of the web."""
    if not is_tie(web, value):
        raise InvalidNumber(value)


def are_rooms(value):
    """Whether the value is a tuple of 1 to 5 rooms."""
    if not isinstance(value, tuple) or not 1 <= len(value) <= MAX_POINTS:
        return False
    return all([isinstance(room, Room) for room in value])


def are_triples(value, points):
    """Whether the value is a tuple of at most six ties by their form alone."""
    if not isinstance(value, tuple) or len(value) > MAX_TIES:
        return False
    return all([is_triple(tie, points) for tie in value])


def is_triple(value, points):
    """Whether the value has the form of a tie between such points."""
    if not isinstance(value, tuple) or len(value) != 3:
        return False
    begin, end, pairs = value
    return is_within(begin, 0, points - 1) and is_within(end, 0, points - 1) and is_pair_row(pairs)


def is_pair_row(value):
    """Whether the value is an ascending tuple of pairs of integers from 0 on."""
    if not isinstance(value, tuple) or not all([is_count_pair(pair) for pair in value]):
        return False
    return all([one < other for one, other in zip(value, value[1:])])


def is_count_pair(value):
    """Whether the value is a pair of integers from 0 on."""
    return isinstance(value, tuple) and len(value) == 2 and is_count(value[0]) and is_count(value[1])


def tree_taken(points, ties):
    """The ties that close no round with those taken ahead of them, ascending."""
    taken = []
    # Points that hang together by ties taken so far have one mark.
    marks = list(range(points))
    for number, (begin, end, _) in enumerate(ties, start=1):
        old, new = marks[begin], marks[end]
        if old != new:
            marks = [new if mark == old else mark for mark in marks]
            taken.append(number)
    return tuple(taken)


def tie_fault(rooms, number, tie):
    """The first fault of a tie, None if there is none."""
    begin, end, pairs = tie
    one, other = rooms[begin], rooms[end]
    if not all([member < one.size and goal < other.size for member, goal in pairs]):
        return ("members", number)
    return None if is_pairs(one, other, pairs) else ("pairs", number)


def web_fault(rooms, ties):
    """The first fault of rooms and ties, None if they are a web."""
    if not are_rooms(rooms) or not are_triples(ties, len(rooms)):
        raise InvalidWeb("a web has a tuple of 1 to 5 rooms, and one of at most six ties")
    for number, tie in enumerate(ties, start=1):
        fault = tie_fault(rooms, number, tie)
        if fault is not None:
            return fault
    together = len(tree_taken(len(rooms), ties)) == len(rooms) - 1
    return None if together else ("apart",)


def fraction(web):
    """The fraction of the web: the pair of its top and its bottom."""
    check_web(web)
    top, bottom = 0, 1
    for size in [room.size for room in web.rooms]:
        top, bottom = top * size + bottom, bottom * size
    for size in [len(pairs) for _, _, pairs in web.ties]:
        top, bottom = top * size - bottom, bottom * size
    common = gcd(top, bottom)
    return top // common, bottom // common


def least_tree(web):
    """The ties of the least tree, ascending."""
    check_web(web)
    return tree_taken(web.points, web.ties)


def is_needed(web, tie):
    """Whether a tie is needed; it is (u, v, pairs)."""
    begin, end, pairs = tie
    if begin == end:
        return True
    return len(pairs) < web.rooms[begin].size and len(pairs) < web.rooms[end].size


def needed_ties(web):
    """The ties that are needed, ascending."""
    check_web(web)
    return tuple([number for number, tie in enumerate(web.ties, start=1) if is_needed(web, tie)])
