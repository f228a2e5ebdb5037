"""Words that are alike, and members of rooms that are."""

from treerooms.base.lots import turned_member
from treerooms.base.rooms import check_member
from treerooms.trees.papers import led_word, paper_of
from treerooms.trees.rotations import road_between
from treerooms.webs.plain import check_words
from treerooms.webs.roads import check_start
from treerooms.webs.walks import is_any_word, joined_walk, plain_walk, walk_back
from treerooms.webs.webs import check_web


def steps_from(web, point, member):
    """The steps from a pair (point, member) to alike ones, each with a road that leads there.

    A step is (point, member, road): the road c is from the old point to the
    new one, and c (new member) c^-1 equals (old member).
    """
    room = web.rooms[point]
    steps = [(point, turned_member(room, member, by), (room.contraries[by],)) for by in range(room.size)]
    for tie in web.beginnings(point):
        side = web.side(tie)
        if side.carries[member] is not None:
            steps.append((side.target, side.carries[member], (0, tie, 0)))
    return steps


def pairs_alike(web, point, member):
    """All pairs that are alike to a pair, with the pair and the road by which each was met first."""
    met = {(point, member): None}
    waiting = [(point, member)]
    at = 0
    while at < len(waiting):
        pair = waiting[at]
        for goal_point, goal, road in steps_from(web, pair[0], pair[1]):
            if (goal_point, goal) not in met:
                met[(goal_point, goal)] = (pair, road)
                waiting.append((goal_point, goal))
        at += 1
    return met


def member_classes(web):
    """All classes of pairs (point, member) that are alike, ascending."""
    check_web(web)
    found = []
    known = {}
    for point in range(web.points):
        for member in range(web.rooms[point].size):
            if (point, member) not in known:
                row = sorted(pairs_alike(web, point, member))
                known.update({pair: True for pair in row})
                found.append(tuple(row))
    return tuple(found)


def road_of_stays(web, point, member, other_point, other_member):
    """As `stays_between`, of what is not checked here."""
    met = pairs_alike(web, point, member)
    pair = (other_point, other_member)
    if pair not in met:
        return None
    road = (0,)
    while met[pair] is not None:
        pair, step = met[pair]
        road = joined_walk(web, pair[0], step, road)
    return road


def stays_between(web, point, member, other_point, other_member):
    """A road c from `point` for which c (other_member) c^-1 equals (member), None if there is none."""
    check_start(web, point)
    check_member(web.rooms[point], member)
    check_start(web, other_point)
    check_member(web.rooms[other_point], other_member)
    return road_of_stays(web, point, member, other_point, other_member)


def word_between(web, one, other):
    """A word c for which c `one` c^-1 is equal to `other`, None if there is none."""
    paper, goal = paper_of(web, one), paper_of(web, other)
    if paper.length() != goal.length():
        return None
    if paper.is_long():
        road = road_between(web, paper.point, paper.middle, goal.point, goal.middle)
    else:
        road = road_of_stays(web, goal.point, goal.middle[0], paper.point, paper.middle[0])
    if road is None:
        return None
    ahead = joined_walk(web, 0, goal.by, road)
    return plain_walk(web, joined_walk(web, 0, ahead, walk_back(web, 0, paper.by)))


def are_alike(web, one, other):
    """Whether two words are alike."""
    check_words(web, one, other)
    return word_between(web, one, other) is not None


def between(web, one, other):
    """A word c for which c `one` c^-1 is equal to `other`, None if they are not alike."""
    check_words(web, one, other)
    return word_between(web, one, other)


def is_between(web, one, other, value):
    """Whether the value is a word, of any length, by which the words are alike."""
    check_words(web, one, other)
    return is_any_word(web, value) and led_word(web, value, one) == plain_walk(web, other)
