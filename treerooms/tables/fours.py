"""Tables of four integers, and the words of the web of rooms of four and six members."""

from treerooms.base.checks import is_integer
from treerooms.base.rooms import Room
from treerooms.errors import InvalidTable
from treerooms.trees.alike import word_between
from treerooms.webs.roads import check_word
from treerooms.webs.walks import plain_walk
from treerooms.webs.webs import Web

MAX_ENTRY = 60
MOST_TIES = 130

UNIT = ((1, 0), (0, 1))
OPPOSITE = ((-1, 0), (0, -1))
# The powers of the tables for which the members 1 of both rooms stand.
ONES = (((1, 0), (0, 1)), ((0, -1), (1, 0)), ((-1, 0), (0, -1)), ((0, 1), (-1, 0)))
OTHERS = (
    ((1, 0), (0, 1)), ((0, -1), (1, 1)), ((-1, -1), (1, 0)),
    ((-1, 0), (0, -1)), ((0, 1), (-1, -1)), ((1, 1), (-1, 0)),
)


def four_six():
    """The web of rooms of four and six members over a tie of two."""
    return Web((Room.round(4), Room.round(6)), ((0, 1, ((0, 0), (2, 3))),))


def is_pair(value):
    """Whether the value is a pair of integers, of any length."""
    return isinstance(value, tuple) and len(value) == 2 and is_integer(value[0]) and is_integer(value[1])


def is_table(value):
    """Whether the value is a table, with integers of any length."""
    if not isinstance(value, tuple) or len(value) != 2 or not is_pair(value[0]) or not is_pair(value[1]):
        return False
    (one, two), (three, four) = value
    return one * four - two * three == 1


def check_table(value):
    """Refuse what is no table with integers from -60 to 60."""
    if not is_table(value) or not all([abs(many) <= MAX_ENTRY for many in value[0] + value[1]]):
        raise InvalidTable("a table has four integers from -60 to 60, and the determinant 1")


def times(one, other):
    """The product of two tables, with integers of any length."""
    (a, b), (c, d) = one
    (e, f), (g, h) = other
    return (a * e + b * g, a * f + b * h), (c * e + d * g, c * f + d * h)


def table_product(one, other):
    """The product of two tables."""
    check_table(one)
    check_table(other)
    return times(one, other)


def table_of_stays(word):
    """The product of the tables of all stays of a word."""
    table = ONES[word[0]]
    for at in range(2, len(word), 2):
        table = times(table, OTHERS[word[at]] if at // 2 & 1 == 1 else ONES[word[at]])
    return table


def table_of_word(word):
    """The table of a word."""
    check_word(four_six(), word)
    return table_of_stays(word)


def road_to_table(table):
    """A word with this table, not plain."""
    # S U is ((-1, -1), (0, -1)), and S S is ((-1, 0), (0, -1)); so their product leads a, b, c, d to sums of rows.
    (a, b), (c, d) = table
    word = [0]
    while c != 0:
        many = a // c
        word = with_sums(word, many)
        # Behind S, what is left is the table with the rows (c, d) and (many c - a, many d - b).
        word[-1] = (word[-1] + 1) & 3
        a, b, c, d = c, d, many * c - a, many * d - b
    if a == -1:
        word[-1] = (word[-1] + 2) & 3
        b = -b
    return with_sums(word, b)


def with_sums(word, many):
    """The word with that of ((1, many), (0, 1)) behind it."""
    found = list(word)
    for _ in range(abs(many)):
        if many > 0:
            found[-1] = (found[-1] + 1) & 3
            found.extend([1, 1, -1, 2])
        else:
            found[-1] = (found[-1] + 2) & 3
            found.extend([1, 5, -1, 3])
    return found


def plain_word_of(web, table):
    """The plain word with this table."""
    return plain_walk(web, tuple(road_to_table(table)))


def word_of_table(table):
    """The plain word with this table."""
    check_table(table)
    return plain_word_of(four_six(), table)


def table_order(table):
    """The least power from 1 on that is the unit table, None if there is none."""
    check_table(table)
    if table in (UNIT, OPPOSITE):
        return 1 if table == UNIT else 2
    return {-1: 3, 0: 4, 1: 6}.get(table[0][0] + table[1][1])


def tables_between(one, other):
    """A table c for which c `one` is `other` c, None if there is none."""
    check_table(one)
    check_table(other)
    web = four_six()
    word = word_between(web, plain_word_of(web, one), plain_word_of(web, other))
    return None if word is None else table_of_stays(word)


def is_tables_between(one, other, value):
    """Whether the value is a table c for which c `one` is `other` c."""
    check_table(one)
    check_table(other)
    return is_table(value) and times(value, one) == times(other, value)
