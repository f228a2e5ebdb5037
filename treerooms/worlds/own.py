"""The web of rooms of a stock."""

from treerooms.errors import InvalidOperation
from treerooms.trees.papers import paper_of
from treerooms.webs.roads import check_word
from treerooms.webs.walks import is_any_word, plain_walk
from treerooms.webs.webs import fraction
from treerooms.worlds.cores import check_stock, stock_core
from treerooms.worlds.frames import Frame, closing_words, roads_to_lots, staying_word
from treerooms.worlds.homes import web_of_frame, word_led_home, word_led_out
from treerooms.worlds.stocks import (
    are_any_words, do_words_make, has_one_member_rooms, is_walked_around, rank_of,
)


def own_web(web, words):
    """The own web of the stock of the words."""
    check_stock(web, words)
    return web_of_frame(Frame(stock_core(web, words)))


def stock_fraction(web, words):
    """The fraction of the own web."""
    return fraction(own_web(web, words))


def led_out(web, words, word):
    """The plain word of the web to which a word of the own web is led."""
    check_stock(web, words)
    frame = Frame(stock_core(web, words))
    check_word(web_of_frame(frame), word)
    return word_led_out(frame, word)


def led_home(web, words, word):
    """The plain word of the own web that is led to a word equal to a word of the stock."""
    check_stock(web, words)
    check_word(web, word)
    world = stock_core(web, words)
    form = plain_walk(web, word)
    if not is_walked_around(world, form):
        raise InvalidOperation("the word is not in the stock")
    frame = Frame(world)
    return word_led_home(frame, web_of_frame(frame), form)


def free_paper(web, words):
    """A paper with a base of the stock, or with a word of it that comes round and is not nothing."""
    check_stock(web, words)
    frame = Frame(stock_core(web, words))
    roads = roads_to_lots(web, frame)
    for number, lot in enumerate(frame.lots):
        if len(lot.stays) > 1:
            return "round", staying_word(web, roads[number], lot.stays[1])
    return "free", closing_words(web, frame, roads)


def is_free_paper(web, words, value):
    """Whether the value is a paper with a base of the stock, or with a word of it that comes round."""
    check_stock(web, words)
    world = stock_core(web, words)
    if not isinstance(value, tuple) or len(value) != 2:
        return False
    if value[0] == "free":
        return is_base_of(world, value[1])
    return value[0] == "round" and is_round_word_of(world, value[1])


def is_base_of(world, value):
    """Whether the value is a base of the stock with this core."""
    frame = Frame(world)
    if not has_one_member_rooms(frame) or not are_any_words(world.web, value):
        return False
    # As many words as the rank tells, that make the stock, have no relations.
    return len(value) == rank_of(frame) and do_words_make(world, value)


def is_round_word_of(world, value):
    """Whether the value is a word of the stock with this core that comes round and is not nothing."""
    if not is_any_word(world.web, value):
        return False
    form = plain_walk(world.web, value)
    return form != (0,) and is_walked_around(world, form) and not paper_of(world.web, form).is_long()
