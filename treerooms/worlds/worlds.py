"""Worlds: spots at each point, moved by the members, and paired at the ties."""

from treerooms.base.checks import check_number, is_within
from treerooms.errors import InvalidOperation, InvalidWorld, Refused, TooMany
from treerooms.webs.roads import check_road, check_word
from treerooms.webs.walks import plain_walk
from treerooms.webs.webs import check_point, check_web
from treerooms.worlds.frames import Frame
from treerooms.worlds.spots import (
    are_moves, are_pair_rows, chained_parts, filled_parts, first_fault, goals_of, lots_among, many_for_all,
    many_when_full,
)

MAX_SPOTS = 400


class World:
    """Spots of a web, their moves and their pairs; it never changes."""

    def __init__(self, web, moves, pairs):
        fault = world_fault(web, moves, pairs)
        if fault is not None:
            raise Refused(fault)
        self._keep_spots(web, moves, pairs)

    def _keep_spots(self, web, moves, pairs):
        self._web = web
        self._moves = moves
        self._pairs = pairs
        self._goals = goals_of(pairs)

    @property
    def web(self):
        """The web whose world it is."""
        return self._web

    @property
    def moves(self):
        """For each point and each member the permutation of the spots."""
        return self._moves

    @property
    def pairs(self):
        """For each tie the pairs of spots, ascending."""
        return self._pairs

    @property
    def spots(self):
        """The numbers of the spots, by their points."""
        return tuple([len(rows[0]) for rows in self._moves])

    def paired(self, tie, spot):
        """The spot that is paired with a spot at a directed tie, None if there is none."""
        return self._goals[tie].get(spot)

    def __eq__(self, other):
        if not isinstance(other, World) or self._web != other._web:
            return False
        return self._moves == other._moves and self._pairs == other._pairs

    def __str__(self):
        return f"world of {sum(self.spots)} spots, {sum([len(row) for row in self._pairs])} pairs"


class MadeWorld(World):
    """A world that was worked out here, so it has no fault, and any number of spots."""

    def __init__(self, web, moves, pairs):
        self._keep_spots(web, moves, pairs)


def check_world(value):
    """Refuse what is no world."""
    if not isinstance(value, World):
        raise InvalidWorld("a world is an object of World")


def world_fault(web, moves, pairs):
    """The first fault of moves and pairs, None if they are a world of the web."""
    check_web(web)
    if not are_moves(web, moves, MAX_SPOTS):
        raise InvalidWorld("moves have permutations for all members of all rooms, of at most 400 spots in all")
    if not are_pair_rows(web, [len(rows[0]) for rows in moves], pairs):
        raise InvalidWorld("pairs have for each tie an ascending tuple of pairs of spots")
    return first_fault(web, moves, pairs)


def has_all_pairs(world):
    """Whether each spot of both ends of each tie is in a pair."""
    spots = world.spots
    return all([len(row) == spots[begin] == spots[end] for row, (begin, end, _) in zip(world.pairs, world.web.ties)])


def has_free_moves(world):
    """Whether no member but 0 leaves a spot."""
    return all([spot != goal for rows in world.moves for row in rows[1:] for spot, goal in enumerate(row)])


def is_full(world):
    """Whether each spot of both ends of each tie is in a pair."""
    check_world(world)
    return has_all_pairs(world)


def is_free(world):
    """Whether no member but 0 leaves a spot."""
    check_world(world)
    return has_free_moves(world)


def hangs_together(world):
    """Whether moves and pairs lead from each spot to each other one."""
    check_world(world)
    return is_one_piece(world)


def is_one_piece(world):
    """As `hangs_together`, of what is not checked here."""
    frame = Frame(world)
    return not frame.lots or len(frame.reached()) == len(frame.lots)


def lots_of_spots(world, point):
    """The lots of spots at a point, each ascending, by their least spots."""
    check_world(world)
    check_point(world.web, point)
    return lots_among(world.moves[point])


def walk_of_spot(world, point, spot, road):
    """The pair (point, spot) to which the spot is walked, None if a pair lacks."""
    goal = world.moves[point][road[0]][spot]
    for at in range(1, len(road), 2):
        goal = world.paired(road[at], goal)
        if goal is None:
            return None
        point = world.web.side(road[at]).target
        goal = world.moves[point][road[at + 1]][goal]
    return point, goal


def walked(world, point, spot, road):
    """The pair (point, spot) to which the spot is walked along the road, None if a pair lacks."""
    check_world(world)
    check_point(world.web, point)
    check_number(spot, 0, world.spots[point] - 1)
    check_road(world.web, point, road)
    return walk_of_spot(world, point, spot, road)


def check_to_be_full(world):
    """Refuse a world that is not free, or that has too many spots when it is made full."""
    check_world(world)
    if not has_free_moves(world):
        raise InvalidOperation("a world that is made full is free")
    if many_when_full(world.web, world.spots) * world.web.points > MAX_SPOTS:
        raise TooMany(MAX_SPOTS)


def made_full(world):
    """A full free world with all spots, moves and pairs of the world."""
    check_to_be_full(world)
    many = many_when_full(world.web, world.spots)
    moves, pairs = filled_parts(world.web, world.moves, world.pairs, many)
    return MadeWorld(world.web, moves, pairs)


def is_made_full(world, value):
    """Whether the value is a full free world with all spots, moves and pairs of the world."""
    check_to_be_full(world)
    if not is_full_free_world(world.web, value):
        return False
    return has_all_moves(world, value) and has_all_pairs_of(world, value)


def is_full_free_world(web, value):
    """Whether the value is a full free world of the web with at most 400 spots."""
    if not isinstance(value, World) or value.web != web or sum(value.spots) > MAX_SPOTS:
        return False
    # All points hang together by ties, so that a full world has equally many spots at each point.
    return has_all_pairs(value) and has_free_moves(value)


def has_all_moves(world, other):
    """Whether the other world of the web moves all spots of the world as it does."""
    for rows, others in zip(world.moves, other.moves):
        if not all([row == goals[:len(row)] for row, goals in zip(rows, others)]):
            return False
    return True


def has_all_pairs_of(world, other):
    """Whether the other world of the web pairs all spots that the world pairs as it does."""
    for number, row in enumerate(world.pairs, start=1):
        if not all([other.paired(number, spot) == goal for spot, goal in row]):
            return False
    return True


def form_for_paper(web, word):
    """The plain form of a word, which is refused if its world can have too many spots."""
    check_web(web)
    check_word(web, word)
    form = plain_walk(web, word)
    if (len(form) // 2 + 1) * many_for_all(web) * web.points > MAX_SPOTS:
        raise TooMany(MAX_SPOTS)
    return form


def nothing_paper(web, word):
    """A paper that tells that a word is nothing, or a spot that it moves."""
    form = form_for_paper(web, word)
    if form == (0,):
        return ("nothing",)
    moves, pairs = chained_parts(web, form)
    many = many_when_full(web, [len(rows[0]) for rows in moves])
    full_moves, full_pairs = filled_parts(web, moves, pairs, many)
    # The walk begins at the member 0 of the first lot, which is the first spot of the point 0.
    return "moves", MadeWorld(web, full_moves, full_pairs), 0


def is_nothing_paper(web, word, value):
    """Whether the value is a paper that tells that a word is nothing, or a spot that it moves."""
    form = form_for_paper(web, word)
    if not isinstance(value, tuple) or len(value) not in (1, 3):
        return False
    if len(value) == 1:
        return value[0] == "nothing" and form == (0,)
    head, world, spot = value
    if head != "moves" or not is_full_free_world(web, world) or not is_within(spot, 0, world.spots[0] - 1):
        return False
    return walk_of_spot(world, 0, spot, form) != (0, spot)
