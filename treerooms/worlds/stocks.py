"""Stocks as the words that are walked around in a world, worked out without checking what is passed."""

from treerooms.webs.walks import is_any_word, plain_walk
from treerooms.webs.webs import fraction
from treerooms.worlds.folding import folded
from treerooms.worlds.frames import Frame, kept_lots
from treerooms.worlds.meeting import KeptSpots, met_world
from treerooms.worlds.spots import many_for_all
from treerooms.worlds.worlds import MadeWorld, walk_of_spot


def core_world(web, forms):
    """The core of the stock that plain words make, however many and long."""
    return pared(met_world(web, folded(web, forms), 0, None))


def pared(world):
    """What is left when lots are left out as of a core, with the spots numbered as they are met."""
    frame = Frame(world)
    kept = kept_lots(frame, 0)
    if all(kept):
        return world
    return met_world(world.web, KeptSpots(frame, kept), (0, 0), None)


def is_walked_around(world, form):
    """Whether a plain word is walked from the begin to the begin."""
    return walk_of_spot(world, 0, 0, form) == (0, 0)


def are_any_words(web, value):
    """Whether the value is a tuple of words, however many and long."""
    return isinstance(value, tuple) and all([is_any_word(web, word) for word in value])


def do_words_make(world, words):
    """Whether words, however many and long, make the stock whose core is the world."""
    forms = [plain_walk(world.web, word) for word in words]
    if not all([is_walked_around(world, form) for form in forms]):
        return False
    return core_world(world.web, forms) == world


def scaled_fraction(frame):
    """The fraction of the own web whose points and ties are the lots and blocks, times `many_for_all`."""
    many = many_for_all(frame.world.web)
    lots = sum([many // len(lot.stays) for lot in frame.lots])
    return lots - sum([many // block.many for block in frame.blocks])


def whole_world(web):
    """The world with one spot at each point: the core of all words, with all points."""
    moves = tuple([((0,),) * room.size for room in web.rooms])
    return MadeWorld(web, moves, (((0, 0),),) * web.size)


def index_of(core):
    """The index of the stock with this core, None if it is not finite."""
    web = core.web
    whole = Frame(whole_world(web))
    if fraction(web)[0] > 0:
        return scaled_fraction(Frame(core)) // scaled_fraction(whole)
    # What is left behind peeling the web has infinitely many words, so a tie is left.
    kept = kept_lots(whole, None)
    spots = core.spots
    for (begin, end, _), row in zip(web.ties, core.pairs):
        if kept[begin] and kept[end] and not 0 < len(row) == spots[begin] == spots[end]:
            return None
    return spots[kept.index(True)]


def has_one_member_rooms(frame):
    """Whether no member but 0 leaves a spot of the world."""
    return all([len(lot.stays) == 1 for lot in frame.lots])


def rank_of(frame):
    """How many words a base of a free stock has."""
    return len(frame.blocks) - len(frame.lots) + 1
