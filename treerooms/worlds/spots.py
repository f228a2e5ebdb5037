"""Moves and pairs of spots, before they are a world."""

from math import lcm

from treerooms.base.checks import is_within
from treerooms.base.permutations import followed, is_permutation


def are_moves(web, value, most):
    """Whether the value has the form of the moves of a world with at most so many spots."""
    if not isinstance(value, tuple) or len(value) != web.points:
        return False
    if not all([are_room_moves(room, rows) for room, rows in zip(web.rooms, value)]):
        return False
    return sum([len(rows[0]) for rows in value]) <= most


def are_room_moves(room, value):
    """Whether the value has a permutation of one number of spots for each member."""
    if not isinstance(value, tuple) or len(value) != room.size or not isinstance(value[0], tuple):
        return False
    return all([is_permutation(row, len(value[0])) for row in value])


def are_pair_rows(web, spots, value):
    """Whether the value has the form of the pairs of a world with these numbers of spots."""
    if not isinstance(value, tuple) or len(value) != web.size:
        return False
    return all([are_spot_pairs(row, spots[begin], spots[end]) for row, (begin, end, _) in zip(value, web.ties)])


def are_spot_pairs(value, begins, ends):
    """Whether the value is an ascending tuple of pairs of spots, each at most once on its side."""
    if not isinstance(value, tuple) or not all([is_spot_pair(pair, begins, ends) for pair in value]):
        return False
    # Ascending pairs with unlike first spots have ascending first spots.
    if not all([one[0] < other[0] for one, other in zip(value, value[1:])]):
        return False
    return len({goal for _, goal in value}) == len(value)


def is_spot_pair(value, begins, ends):
    """Whether the value is a pair of spots, of so many ones at its begin and its end."""
    if not isinstance(value, tuple) or len(value) != 2:
        return False
    return is_within(value[0], 0, begins - 1) and is_within(value[1], 0, ends - 1)


def do_moves_go_along(room, rows):
    """Whether the moves go along with the products of the room."""
    for one in range(room.size):
        for other in range(room.size):
            if followed(rows[one], rows[other]) != rows[room.table[one][other]]:
                return False
    return True


def do_pairs_go_along(tie, moves, row):
    """Whether the pairs of spots go along with the pairs of the tie."""
    begin, end, pairs = tie
    goals = dict(row)
    for member, carried in pairs:
        one, other = moves[begin][member], moves[end][carried]
        if not all([goals.get(one[spot]) == other[goal] for spot, goal in row]):
            return False
    return True


def first_fault(web, moves, pairs):
    """The first fault of moves and pairs that have the form of a world, None if there is none."""
    for point in range(web.points):
        if not do_moves_go_along(web.rooms[point], moves[point]):
            return ("moves", point)
    for number, tie in enumerate(web.ties, start=1):
        if not do_pairs_go_along(tie, moves, pairs[number - 1]):
            return ("pairs", number)
    return None


def goals_of(pairs):
    """For each directed tie the dict from the spots to those that they are paired with."""
    goals = {}
    for number, row in enumerate(pairs, start=1):
        goals[number] = dict(row)
        goals[-number] = {goal: spot for spot, goal in row}
    return goals


def many_for_all(web):
    """The least common multiple of the numbers of members of all rooms."""
    many = 1
    for room in web.rooms:
        many = lcm(many, room.size)
    return many


def many_when_full(web, spots):
    """The least number of spots that free lots of all rooms fill, and that is at least each of `spots`."""
    step = many_for_all(web)
    return max(1, -(-max(spots) // step)) * step


def filled_moves(room, rows, many):
    """The moves of the room with free lots behind the spots, up to so many spots."""
    starts = range(len(rows[0]), many, room.size)
    return tuple([
        (*rows[member], *[start + line[member] for start in starts for line in room.table])
        for member in range(room.size)
    ])


def filled_pairs(tie, moves, row, many):
    """The pairs with further ones, so that each of so many spots on both sides is in one."""
    begin, end, pairs = tie
    goals = dict(row)
    taken = {other: True for _, other in row}
    goal = 0
    for spot in range(many):
        if spot in goals:
            continue
        while goal in taken:
            goal += 1
        for member, carried in pairs:
            goals[moves[begin][member][spot]] = moves[end][carried][goal]
            taken[moves[end][carried][goal]] = True
    return tuple(sorted(goals.items()))


def filled_parts(web, moves, pairs, many):
    """The moves and the pairs of a free world, made full with so many spots at each point."""
    more = tuple([filled_moves(room, rows, many) for room, rows in zip(web.rooms, moves)])
    return more, tuple([filled_pairs(tie, more, row, many) for tie, row in zip(web.ties, pairs)])


def lots_among(rows):
    """The lots of spots that are moved so, each ascending, by their least spots."""
    found = []
    known = {}
    for spot in range(len(rows[0])):
        if spot not in known:
            lot = tuple(sorted({row[spot] for row in rows}))
            found.append(lot)
            for other in lot:
                known[other] = True
    return tuple(found)


def chained_parts(web, form):
    """The moves and the pairs of free lots, one for each stay of a plain word, through which it is walked."""
    counts = [0] * web.points
    rows = [[] for _ in web.ties]
    point, start = 0, 0
    counts[0] = web.rooms[0].size
    for at in range(1, len(form), 2):
        side = web.side(form[at])
        goal_start = counts[side.target]
        counts[side.target] += web.rooms[side.target].size
        ahead = web.rooms[point].table[form[at - 1]]
        links = [(start + ahead[member], goal_start + side.carries[member]) for member in side.within]
        if form[at] < 0:
            links = [(goal, spot) for spot, goal in links]
        rows[abs(form[at]) - 1].extend(links)
        point, start = side.target, goal_start
    moves = tuple([filled_moves(room, ((),) * room.size, many) for room, many in zip(web.rooms, counts)])
    return moves, tuple([tuple(sorted(row)) for row in rows])
