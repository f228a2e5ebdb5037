"""Ways of rooms to move spots, and their kinds."""

from math import factorial

from treerooms.base.lots import every_lot, turned_member


def raised(base, many):
    """The product of so many equal integers."""
    made = 1
    for _ in range(many):
        made = made * base
    return made


def turned_lot(room, lot, by):
    """The lot, turned by a member."""
    return tuple(sorted([turned_member(room, member, by) for member in lot]))


class LotClass:
    """The lots of a room that are turned into one of them.

    `index` is the number of spots of a lot of spots, one of which is left by
    just this lot, the `sample`; `renamings` is the number of renamings of these spots that
    lead the way to itself.
    """

    def __init__(self, room, lot):
        self.sample = lot
        self.index = room.size // len(lot)
        stayers = [by for by in range(room.size) if turned_lot(room, lot, by) == lot]
        self.renamings = len(stayers) // len(lot)


def lot_classes(room):
    """All classes of lots of a room, each told by its first lot."""
    known = {}
    found = []
    for lot in every_lot(room):
        if lot not in known:
            found.append(LotClass(room, lot))
            for by in range(room.size):
                known[turned_lot(room, lot, by)] = True
    return found


def kinds_of_ways(classes, many):
    """All kinds of ways to move so many spots: how many lots of spots there are for each class."""
    rows = [((), many)]
    for one in classes:
        rows = [(row + (lots,), left - lots * one.index) for row, left in rows for lots in range(left // one.index + 1)]
    # The class of the whole room, which leaves a spot alone, fills whatever is left.
    return [row for row, left in rows if left == 0]


def number_of_kinds(classes, many):
    """How many kinds of ways to move so many spots there are."""
    counts = [1] + [0] * many
    for one in classes:
        for spots in range(one.index, many + 1):
            counts[spots] = counts[spots] + counts[spots - one.index]
    return counts[many]


def renamings_of(numbers, kind):
    """How many renamings of the spots lead a way of a kind to itself.

    `numbers` has for each class how many lead a single lot of spots to itself.
    """
    many = 1
    for renamings, lots in zip(numbers, kind):
        many = many * raised(renamings, lots) * factorial(lots)
    return many


def ways_number(room, many):
    """How many ways the room has to move so many spots."""
    lots = [0] * (room.size + 1)
    for lot in every_lot(room):
        lots[room.size // len(lot)] += 1
    counts = [1]
    for spots in range(1, many + 1):
        total = 0
        for index in range(1, min(spots, room.size) + 1):
            total += factorial(spots - 1) // factorial(spots - index) * lots[index] * counts[spots - index]
        counts.append(total)
    return counts[many]


def is_free_way(size, many):
    """Whether a room, or a tie, of this size moves so many spots freely in some way."""
    return many % size == 0


def free_renamings(size, many):
    """How many renamings of so many spots lead a free way of a room of this size to itself."""
    return raised(size, many // size) * factorial(many // size)
