"""Sums of words, and renamings that keep the web."""

from treerooms.counts.totals import Totals
from treerooms.errors import InvalidOperation
from treerooms.kin.sketches import are_names, renamed_ties
from treerooms.webs.plain import check_words
from treerooms.webs.roads import check_word
from treerooms.webs.webs import check_web, tree_taken
from treerooms.worlds.spots import many_for_all

MOST_WORDS = 60


def sum_columns(web):
    """The columns of the web: the members of the rooms, and the ties outside the least tree."""
    check_web(web)
    tree = tree_taken(web.points, web.ties)
    rooms = [("room", point, member) for point, room in enumerate(web.rooms) for member in range(1, room.size)]
    return tuple(rooms + [("tie", tie) for tie in range(1, web.size + 1) if tie not in tree])


def sum_divisors(web):
    """The integers up to multiples of which the numbers of the sums are taken, 0 for none."""
    check_web(web)
    totals = Totals(web)
    return totals.rules.divisors(totals.columns()) + (0,) * len(totals.outside)


def sum_of(web, word):
    """The least row of all words with the sum of a word."""
    check_web(web)
    check_word(web, word)
    totals = Totals(web)
    least = totals.least_row(word, 1)
    members = [
        least.get((point, member), 0) for point, room in enumerate(web.rooms) for member in range(1, room.size)
    ]
    return tuple(members) + totals.tie_counts(word)


def are_sums_equal(web, one, other):
    """Whether two words have equal sums."""
    check_words(web, one, other)
    totals = Totals(web)
    if totals.tie_counts(one) != totals.tie_counts(other):
        return False
    return totals.least_row(one, 1) == totals.least_row(other, 1)


def sum_order(web, word):
    """The least integer from 1 on so that this power of the word has the sum of (0,), None if there is none."""
    check_web(web)
    check_word(web, word)
    totals = Totals(web)
    if any(totals.tie_counts(word)):
        return None
    times = 1
    # The order of a sum divides the least common multiple of the orders of all members.
    while totals.least_row(word, times):
        times += 1
        while many_for_all(web) % times != 0:
            times += 1
    return times


def keeps_web(web, names):
    """Whether the value has names that lead the web to itself, and the point 0 to the point 0."""
    if not are_names(web.rooms, web.size, web.rooms, names) or names[0][0] != 0:
        return False
    points, renamings, ties = names
    return renamed_ties(web.ties, points, renamings, ties) == web.ties


def renaming_led(web, names, word):
    """The word to which names that keep the web lead a word."""
    check_web(web)
    if not keeps_web(web, names):
        raise InvalidOperation("these are no points, renamings and ties that lead the web to itself")
    check_word(web, word)
    _, renamings, ties = names
    led = [renamings[0][word[0]]]
    for at in range(1, len(word), 2):
        name = ties[abs(word[at]) - 1]
        led.append(name if word[at] > 0 else -name)
        led.append(renamings[web.side(word[at]).target][word[at + 1]])
    return tuple(led)
