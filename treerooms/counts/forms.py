"""Plain words by ties, and far powers of long words."""

from treerooms.base.checks import check_number, is_count
from treerooms.counts.powers import FarPower
from treerooms.errors import InvalidNumber, InvalidOperation
from treerooms.trees.lines import long_paper
from treerooms.webs.roads import check_word
from treerooms.webs.webs import check_web

MOST_TIES = 200
MOST_POWER = 10 ** 30


def directed_ties(web):
    """All directed ties, ascending."""
    return [tie for tie in range(-web.size, web.size + 1) if tie != 0]


def step_number(web, tie, behind):
    """How many stays can stand between two directed ties in a plain road."""
    side = web.side(behind)
    if web.side(tie).target != side.source:
        return 0
    return len(side.leasts) - (1 if behind == -tie else 0)


def step_table(web):
    """The table of all step numbers."""
    check_web(web)
    ties = directed_ties(web)
    return tuple([tuple([step_number(web, tie, behind) for behind in ties]) for tie in ties])


def places_by_ties(web, ties):
    """The numbers of the places at a distance from 1 on, by their last ties."""
    counts = {tie: len(web.side(tie).leasts) if web.side(tie).source == 0 else 0 for tie in directed_ties(web)}
    for _ in range(ties - 1):
        totals = [0] * web.points
        for tie, many in counts.items():
            totals[web.side(tie).target] += many
        # The step number is one less behind the same tie, gone the other way.
        counts = {tie: len(web.side(tie).leasts) * totals[web.side(tie).source] - counts[-tie] for tie in counts}
    return counts


def forms_number(web, ties):
    """The number of the plain words with so many ties."""
    check_web(web)
    check_number(ties, 0, MOST_TIES)
    if ties == 0:
        return web.rooms[0].size
    counts = places_by_ties(web, ties)
    return sum([many for tie, many in counts.items() if web.side(tie).target == 0]) * web.rooms[0].size


def places_number(web, ties):
    """The number of the places at this distance from the first one."""
    check_web(web)
    check_number(ties, 0, MOST_TIES)
    return 1 if ties == 0 else sum(list(places_by_ties(web, ties).values()))


def check_power(web, word, power):
    """Refuse what is no web, word or number of a power."""
    check_web(web)
    check_word(web, word)
    check_number(power, 0, MOST_POWER)


def ties_of_power(paper, power):
    """The number of the ties of the plain form of the power of a long word."""
    return power * paper.length() + 2 * (len(paper.by) // 2) if power > 0 else 0


def far_ties(web, word, power):
    """The number of the ties of the plain form of the power."""
    check_power(web, word, power)
    return ties_of_power(long_paper(web, word), power)


def far_entry(web, word, power, place):
    """The entry of the plain form of the power with an index."""
    check_power(web, word, power)
    if not is_count(place):
        raise InvalidNumber(place)
    paper = long_paper(web, word)
    if place > 2 * ties_of_power(paper, power):
        raise InvalidOperation("the plain form has no such entry")
    if power == 0:
        return 0
    far = FarPower(web, paper, power)
    index, odd = divmod(place, 2)
    return far.tie_at(index) if odd == 1 else far.stay_at(index)
