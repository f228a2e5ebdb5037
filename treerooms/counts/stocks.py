"""How many worlds and stocks there are."""

from math import factorial

from treerooms.base.checks import check_number
from treerooms.base.rooms import check_room
from treerooms.counts.listing import Listing
from treerooms.counts.pairings import Tally
from treerooms.counts.ways import free_renamings, is_free_way, lot_classes, number_of_kinds, raised, ways_number
from treerooms.errors import TooMany
from treerooms.webs.webs import check_web
from treerooms.worlds.worlds import MadeWorld

MAX_SPOTS = 12
MAX_FREE = 40
MAX_SIX = 6
MAX_KINDS = 100000
MAX_WORLDS = 20000

# Worlds of so many spots at each point are listed.
MOST_LISTED = 3


def moves_number(room, many):
    """How many ways the room has to move so many spots."""
    check_room(room)
    check_number(many, 0, MAX_SPOTS)
    check_sizes((room,))
    return ways_number(room, many)


def check_sizes(rooms):
    """Refuse rooms of more than six members."""
    if not all([room.size <= MAX_SIX for room in rooms]):
        raise TooMany(MAX_SIX)


def check_kinds(web, many):
    """Refuse a web with a room of more than six members, or with too many kinds of ways."""
    check_sizes(web.rooms)
    kinds = 1
    for room in web.rooms:
        kinds = kinds * number_of_kinds(lot_classes(room), many)
        if kinds > MAX_KINDS:
            raise TooMany(MAX_KINDS)


def worlds_number(web, many):
    """The number of the full worlds with so many spots at each point."""
    check_web(web)
    check_number(many, 1, MAX_SPOTS)
    check_kinds(web, many)
    return Tally(web).worlds(many)


def stocks_number(web, many):
    """The number of the stocks with this index."""
    check_web(web)
    check_number(many, 1, MAX_SPOTS)
    check_kinds(web, many)
    tally = Tally(web)
    counts = [1]
    for spots in range(1, many + 1):
        counts.append(tally.worlds(spots) // raised(factorial(spots), web.points - 1))
    return last_stocks(counts)


def last_stocks(counts):
    """S(m), worked out from F(0), F(1), .., F(m)."""
    stocks = [0]
    for index in range(1, len(counts)):
        total = counts[index]
        # All is taken (index - 1)! times, so that there are no fractions.
        for less in range(1, index):
            total -= stocks[less] * counts[index - less] * (factorial(index - 1) // factorial(index - less))
        stocks.append(total // factorial(index - 1))
    return stocks[-1]


def free_number(web, many):
    """The number of the free stocks with this index."""
    check_web(web)
    check_number(many, 1, MAX_FREE)
    return last_stocks([1] + [free_worlds(web, spots) for spots in range(1, many + 1)])


def free_worlds(web, many):
    """The number of the full free worlds, divided as in F(m)."""
    if not all([is_free_way(room.size, many) for room in web.rooms]):
        return 0
    top, bottom = factorial(many), 1
    for _, _, pairs in web.ties:
        top = top * free_renamings(len(pairs), many)
    for room in web.rooms:
        bottom = bottom * free_renamings(room.size, many)
    return top // bottom


def all_worlds(web, many):
    """All full worlds with so many spots at each point, ascending by their moves, and then by their pairs."""
    check_web(web)
    check_number(many, 1, MOST_LISTED)
    check_kinds(web, many)
    if Tally(web).worlds(many) > MAX_WORLDS:
        raise TooMany(MAX_WORLDS)
    listing = Listing(web, many)
    for row in listing.rows():
        moves = listing.moves_of(row)
        for pairs in listing.pair_rows(row):
            yield MadeWorld(web, moves, pairs)
