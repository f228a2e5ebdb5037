"""Plain roads, and words as a whole."""

from treerooms.base.checks import check_number
from treerooms.errors import TooMany
from treerooms.webs.roads import check_road, check_start, check_word
from treerooms.webs.walks import is_plain_walk, joined_walk, plain_walk, steps_behind, walk_back
from treerooms.webs.webs import check_web

MOST_POWER = 40
MOST_TIES = 4
MOST_LISTED = 2000


def plain(web, point, road):
    """The plain road that is equal to the road."""
    check_start(web, point)
    check_road(web, point, road)
    return plain_walk(web, road)


def is_plain(web, point, value):
    """Whether the value is a plain road from the point, with any number of ties."""
    check_start(web, point)
    return is_plain_walk(web, point, value)


def product(web, one, other):
    """The plain word that is equal to `one` with `other` behind it."""
    check_words(web, one, other)
    return plain_walk(web, joined_walk(web, 0, one, other))


def contrary(web, word):
    """The plain word that undoes a word."""
    check_web(web)
    check_word(web, word)
    return plain_walk(web, walk_back(web, 0, word))


def power(web, word, many):
    """The product of so many equal words, below 0 of contraries."""
    check_web(web)
    check_word(web, word)
    check_number(many, -MOST_POWER, MOST_POWER)
    step = word if many >= 0 else walk_back(web, 0, word)
    reached = (0,)
    for _ in range(abs(many)):
        reached = joined_walk(web, 0, reached, step)
    return plain_walk(web, reached)


def are_equal(web, one, other):
    """Whether two words are equal."""
    check_words(web, one, other)
    return plain_walk(web, one) == plain_walk(web, other)


def is_nothing(web, word):
    """Whether a word is equal to (0,)."""
    check_web(web)
    check_word(web, word)
    return plain_walk(web, word) == (0,)


def plain_words(web, ties):
    """All plain words with so many ties, ascending."""
    check_web(web)
    check_number(ties, 0, MOST_TIES)
    endings = endings_behind(web, ties)
    if endings[ties][0] > MOST_LISTED:
        raise TooMany(MOST_LISTED)
    for beginning in beginnings_of_words(web, endings):
        for stay in range(web.rooms[0].size):
            yield (*beginning, stay)


def check_words(web, one, other):
    """Refuse what is no web, and then the first one of both that is no word."""
    check_web(web)
    check_word(web, one)
    check_word(web, other)


def endings_behind(web, ties):
    """How many ways there are to end a plain word with 0, 1, .., `ties` more ties.

    The ways are told by the tie that the word has last, 0 if it has none.
    """
    lasts = list(range(-web.size, web.size + 1))
    last_room = web.rooms[0].size
    rows = [{last: last_room if point_behind(web, last) == 0 else 0 for last in lasts}]
    for _ in range(ties):
        rows.append({last: endings_from(web, last, rows[-1]) for last in lasts})
    return rows


def endings_from(web, last, row):
    """How many ways there are behind a tie with one tie more than the row tells."""
    steps = steps_behind(web, point_behind(web, last), last)
    return sum([row[tie] for _, tie in steps])


def point_behind(web, last):
    """The point at which a word is behind its last tie, 0 if there is none."""
    return web.side(last).target if last != 0 else 0


def beginnings_of_words(web, endings):
    """All plain words with the ties that `endings` tells, without their last stays."""
    beginnings = [()]
    for row in endings[-2::-1]:
        beginnings = beginnings_gone_on(web, beginnings, row)
    return beginnings


def beginnings_gone_on(web, beginnings, row):
    """Beginnings of words with one stay and one tie more, from which a word can come back.

    The row tells how many ways there are to end a word behind a tie.
    """
    return [
        (*beginning, stay, tie)
        for beginning in beginnings
        for stay, tie in steps_on(web, beginning)
        if row[tie] > 0
    ]


def steps_on(web, beginning):
    """The pairs (stay, tie) that the beginning of a plain word can go on with, ascending."""
    last = beginning[-1] if beginning else 0
    return steps_behind(web, point_behind(web, last), last)
