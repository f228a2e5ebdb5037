"""Words that two stocks have in common."""

from treerooms.errors import TooMany
from treerooms.worlds.cores import two_cores
from treerooms.worlds.frames import Frame, closing_words, roads_to_lots, staying_words
from treerooms.worlds.meeting import PairedSpots, met_world
from treerooms.worlds.stocks import are_any_words, do_words_make, index_of, pared

MAX_PAIRED = 2000


def common_core(web, one, other):
    """The core of the common stock of two stocks."""
    first, second = two_cores(web, one, other)
    world = met_world(web, PairedSpots(first, second), (0, 0, 0), MAX_PAIRED)
    if world is None:
        raise TooMany(MAX_PAIRED)
    return pared(world)


def common_words(web, one, other):
    """Words that make the common stock of two stocks."""
    frame = Frame(common_core(web, one, other))
    roads = roads_to_lots(web, frame)
    return staying_words(web, frame, roads) + closing_words(web, frame, roads)


def is_common(web, one, other, value):
    """Whether the value is a tuple of words, however many and long, that make the common stock."""
    world = common_core(web, one, other)
    return are_any_words(web, value) and do_words_make(world, value)


def common_index(web, one, other):
    """The index of the common stock, None if it is not finite."""
    return index_of(common_core(web, one, other))
