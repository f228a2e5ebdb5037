"""Words that come round, and the lines that long words move along themselves."""

from treerooms.base.checks import check_number, is_within
from treerooms.errors import Refused
from treerooms.trees.papers import is_core, led_word, paper_of
from treerooms.trees.tree import check_place, is_place_of, place_moved, shared_length, steps_between
from treerooms.webs.roads import check_word
from treerooms.webs.walks import is_stay, is_walk, joined_walk, plain_walk, walk_end
from treerooms.webs.webs import check_web

MOST_POWER = 40
MOST_STEPS = 100


def check_web_word(web, word):
    """Refuse what is no web, and then what is no word of it."""
    check_web(web)
    check_word(web, word)


def long_paper(web, word):
    """The paper of a word, which is refused if it comes round."""
    paper = paper_of(web, word)
    if not paper.is_long():
        raise Refused(("round",))
    return paper


def kind_of(web, word):
    """The paper that tells whether a word comes round or is long."""
    check_web_word(web, word)
    paper = paper_of(web, word)
    if paper.is_long():
        return "long", paper.point, paper.middle, paper.by
    return "round", paper.point, paper.middle[0], paper.by


def is_kind(web, word, value):
    """Whether the value is a paper of the word."""
    check_web_word(web, word)
    if not isinstance(value, tuple) or len(value) != 4:
        return False
    kind, point, part, by = value
    if not is_within(point, 0, web.points - 1) or not is_walk(web, 0, by) or walk_end(web, 0, by) != point:
        return False
    if kind == "round":
        return is_stay(web, point, part) and led_word(web, by, (part,)) == plain_walk(web, word)
    if kind == "long":
        return is_core(web, point, part) and led_word(web, by, part) == plain_walk(web, word)
    return False


def order_of(web, word):
    """The order of a word that comes round, None for a long one."""
    check_web_word(web, word)
    paper = paper_of(web, word)
    return None if paper.is_long() else web.rooms[paper.point].order(paper.middle[0])


def length_of(web, word):
    """The least distance between a place and where the word moves it."""
    check_web_word(web, word)
    return paper_of(web, word).length()


def steps_moved(web, word, place):
    """The distance between a place and where a word moves it, both of any length."""
    return steps_between(place, place_moved(web, word, place))


def moved_by(web, word, place):
    """The distance between a place and where the word moves it."""
    check_web_word(web, word)
    check_place(web, place)
    return steps_moved(web, word, place)


def on_line(web, word, place):
    """Whether a place is on the line of a long word."""
    check_web_word(web, word)
    check_place(web, place)
    return steps_moved(web, word, place) == long_paper(web, word).length()


def line(web, word, many):
    """Places in a row on the line of a long word, one more than `many`."""
    check_web_word(web, word)
    check_number(many, 1, MOST_STEPS)
    paper = long_paper(web, word)
    road = paper.by
    places = [plain_walk(web, road)[:-1]]
    while len(places) <= many:
        spot = 2 * (len(places) - 1) % (len(paper.middle) - 1)
        # The core's last stay is taken ahead of its first one where it begins anew.
        if spot == 0 and len(places) > 1:
            road = joined_walk(web, 0, road, (paper.middle[-1],))
        road = joined_walk(web, 0, road, (*paper.middle[spot:spot + 2], 0))
        places.append(plain_walk(web, road)[:-1])
    return tuple(places)


def is_line(web, word, many, value):
    """Whether the value is a tuple of `many` + 1 places in a row on the line of the word."""
    check_web_word(web, word)
    check_number(many, 1, MOST_STEPS)
    paper = long_paper(web, word)
    if not isinstance(value, tuple) or len(value) != many + 1:
        return False
    if not all([is_place_of(web, place) and steps_moved(web, word, place) == paper.length() for place in value]):
        return False
    return are_in_a_row(value) and place_on_way(value[0], place_moved(web, word, value[0]), 1) == value[1]


def are_in_a_row(places):
    """Whether each place is a neighbour of the one ahead of it, and goes on from the one ahead of that."""
    if not all([steps_between(one, other) == 1 for one, other in zip(places, places[1:])]):
        return False
    return all([one != other for one, other in zip(places, places[2:])])


def place_on_way(one, other, steps):
    """The place so many steps behind `one` on the way to `other`."""
    shared = shared_length(one, other)
    back = (len(one) - shared) // 2
    if steps <= back:
        return one[:len(one) - 2 * steps]
    return other[:shared + 2 * (steps - back)]


def check_both_round(web, one, other):
    """Refuse what is no web or word, and then the first word that is long."""
    check_web_word(web, one)
    check_word(web, other)
    for index, word in enumerate((one, other)):
        if paper_of(web, word).is_long():
            raise Refused(("long", index))


def common_place(web, one, other):
    """A place that both of two words leave, None if there is none."""
    check_both_round(web, one, other)
    left = plain_walk(web, paper_of(web, one).by)[:-1]
    # The nearest place that the other word leaves is half way to where it moves this one.
    goal = place_moved(web, other, left)
    nearest = place_on_way(left, goal, steps_between(left, goal) // 2)
    return nearest if place_moved(web, one, nearest) == nearest else None


def is_common_place(web, one, other, value):
    """Whether the value is a place that both words leave."""
    check_both_round(web, one, other)
    if not is_place_of(web, value):
        return False
    return place_moved(web, one, value) == value and place_moved(web, other, value) == value
