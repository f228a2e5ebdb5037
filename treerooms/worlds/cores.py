"""Stocks of words, and their cores."""

from treerooms.errors import InvalidRoad, Refused, TooMany
from treerooms.trees.papers import led_word
from treerooms.webs.roads import check_word, is_short_word
from treerooms.webs.walks import is_any_word, plain_walk, walk_back
from treerooms.webs.webs import check_web
from treerooms.worlds.matching import Rest, word_between_rests
from treerooms.worlds.stocks import core_world, index_of, is_walked_around

MAX_BROUGHT = 2000

# So many words are passed at once.
MOST_WORDS = 5


def check_words(web, value):
    """Refuse what is no tuple of at most five words with at most 60 ties each."""
    if not isinstance(value, tuple) or len(value) > MOST_WORDS:
        raise InvalidRoad("words are a tuple of at most five words")
    if not all([is_short_word(web, word) for word in value]):
        raise InvalidRoad("words are a tuple of words with at most 60 ties")


def check_stock(web, words):
    """Refuse what is no web, and then what are no words of it."""
    check_web(web)
    check_words(web, words)


def check_stocks(web, one, other):
    """Refuse what is no web, and then the first of both tuples that has no words."""
    check_stock(web, one)
    check_words(web, other)


def is_turnless(word):
    """Whether no tie of a word has its opposite behind it, so that the plain word has the same ties."""
    steps = word[1::2]
    return not any([one == -other for one, other in zip(steps, steps[1:])])


def members_brought(web, word):
    """The numbers of members of the rooms at all stays of the plain form of a word, added up."""
    form = word if is_turnless(word) else plain_walk(web, word)
    sizes, sides = web.sizes, web.sides
    return sizes[0] + sum([sizes[sides[tie].target] for tie in form[1::2]])


def check_brought(web, words):
    """Refuse checked words that bring too many members."""
    total = 0
    for word in words:
        total += members_brought(web, word)
        if total > MAX_BROUGHT:
            raise TooMany(MAX_BROUGHT)


def core_made(web, words):
    """The core of the stock of checked words, however many members they bring."""
    return core_world(web, [plain_walk(web, word) for word in words])


def stock_core(web, words):
    """The core of the stock of checked words, which are refused if they bring too many members."""
    check_brought(web, words)
    return core_made(web, words)


def two_cores(web, one, other):
    """The cores of two stocks."""
    check_stocks(web, one, other)
    # Both are refused ahead of the work for either.
    check_brought(web, one)
    check_brought(web, other)
    return core_made(web, one), core_made(web, other)


def two_rests(web, one, other):
    """What is left of the cores of two stocks, both of which must be long."""
    rests = [Rest(world) for world in two_cores(web, one, other)]
    if not all([rest.is_long() for rest in rests]):
        raise Refused(("round",))
    return rests


def core(web, words):
    """The core of the stock of the words."""
    check_stock(web, words)
    return stock_core(web, words)


def stock_has(web, words, word):
    """Whether a word is in the stock of the words."""
    check_stock(web, words)
    check_word(web, word)
    return is_walked_around(stock_core(web, words), plain_walk(web, word))


def stock_index(web, words):
    """The index of the stock, None if it is not finite."""
    check_stock(web, words)
    return index_of(stock_core(web, words))


def is_long_stock(web, words):
    """Whether the stock has a long word."""
    check_stock(web, words)
    return Rest(stock_core(web, words)).is_long()


def are_one_stock(web, one, other):
    """Whether both stocks have the same words."""
    first, second = two_cores(web, one, other)
    return first == second


def are_alike_stocks(web, one, other):
    """Whether one of two long stocks is the other one, turned."""
    first, second = two_rests(web, one, other)
    return word_between_rests(web, first, second) is not None


def stock_between(web, one, other):
    """A word by which the first one of two long stocks, turned, is the second one; None if there is none."""
    first, second = two_rests(web, one, other)
    return word_between_rests(web, first, second)


def is_stock_between(web, one, other, value):
    """Whether the value is a word, of any length, by which the first stock, turned, is the second one."""
    first, second = two_rests(web, one, other)
    if not is_any_word(web, value):
        return False
    if not all([is_walked_around(second.frame.world, led_word(web, value, word)) for word in one]):
        return False
    back = walk_back(web, 0, value)
    return all([is_walked_around(first.frame.world, led_word(web, back, word)) for word in other])
