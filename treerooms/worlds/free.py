"""What the fraction tells, and free stocks."""

from treerooms.base.checks import check_number
from treerooms.webs.walks import plain_walk
from treerooms.webs.webs import check_web, fraction
from treerooms.worlds.frames import Frame, closing_words, roads_to_lots
from treerooms.worlds.growing import grown_parts
from treerooms.worlds.spots import many_for_all
from treerooms.worlds.stocks import are_any_words, core_world, has_one_member_rooms, index_of
from treerooms.worlds.worlds import MadeWorld, World, has_all_pairs, has_free_moves, is_one_piece

MOST_INDEX = 400


def check_index(web, many):
    """Refuse what is no web, and then what is no index up to 400."""
    check_web(web)
    check_number(many, 1, MOST_INDEX)


def words_number(web):
    """The number of the words, None if there are infinitely many."""
    top, bottom = fraction(web)
    return bottom // top if top > 0 else None


def ends(web):
    """Whether the web has no ends, two, or many."""
    top, _ = fraction(web)
    if top > 0:
        return "none"
    return "two" if top == 0 else "many"


def rank_for(web, many):
    """As `free_rank`, of what is not checked here."""
    top, bottom = fraction(web)
    if many % many_for_all(web) != 0 or (top > 0 and many * top != bottom):
        return None
    return 1 - many * top // bottom


def free_rank(web, many):
    """The rank of the free stocks of an index, None if there are none."""
    check_index(web, many)
    return rank_for(web, many)


def grown_world(web, many):
    """As `free_world`, of what is not checked here."""
    if rank_for(web, many) is None:
        return None
    moves, pairs = grown_parts(web, many)
    return MadeWorld(web, moves, pairs)


def free_world(web, many):
    """A full free world with so many spots at each point that hangs together, None if there is none."""
    check_index(web, many)
    return grown_world(web, many)


def is_free_world(web, many, value):
    """Whether the value is a full free world with so many spots at each point that hangs together."""
    check_index(web, many)
    if not isinstance(value, World) or value.web != web or value.spots != (many,) * web.points:
        return False
    return has_all_pairs(value) and has_free_moves(value) and is_one_piece(value)


def free_base(web, many):
    """A base of a free stock of an index, None if there is none."""
    check_index(web, many)
    world = grown_world(web, many)
    if world is None:
        return None
    frame = Frame(world)
    return closing_words(web, frame, roads_to_lots(web, frame))


def is_free_base(web, many, value):
    """Whether the value is a base of a free stock of an index."""
    check_index(web, many)
    rank = rank_for(web, many)
    if rank is None or not are_any_words(web, value) or len(value) != rank:
        return False
    world = core_world(web, [plain_walk(web, word) for word in value])
    # As many words as the rank tells, that make a free stock of this index, have no relations.
    return has_one_member_rooms(Frame(world)) and index_of(world) == many
