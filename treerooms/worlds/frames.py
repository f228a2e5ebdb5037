"""The lots of spots of a world and its lots of pairs, as a finite figure of points and lines."""

from treerooms.base.lots import few_makers
from treerooms.webs.walks import joined_walk, plain_walk, walk_back


class Lot:
    """A lot of spots at a point, told by its least spot and the members that leave it."""

    def __init__(self, point, least, stays):
        self.point = point
        self.least = least
        self.stays = stays


class Block:
    """A lot of pairs of a tie, told by its least pair; it goes from a lot to a lot.

    `spot_lead` and `goal_lead` are the least members that lead the least spots of
    both lots to the spots of the least pair, `many` members of the tie leave it.
    """

    def __init__(self, tie, least_pair, ends, leads, many):
        self.tie = tie
        self.spot, self.goal = least_pair
        self.source, self.target = ends
        self.spot_lead, self.goal_lead = leads
        self.many = many


class Frame:
    """The lots of a world by their points and least spots, and the blocks by their ties and least pairs."""

    def __init__(self, world):
        self.world = world
        self.lots = []
        # For each point and spot its lot, and the least member that leads the lot's least spot to it.
        self.homes = []
        self.leads = []
        for point in range(world.web.points):
            self._add_lots(point, world.moves[point])
        self.blocks = []
        # For each tie and each spot in a pair its block, and a pair of the tie that leads the least pair to its pair.
        self.block_at = {}
        for number, tie in enumerate(world.web.ties, start=1):
            self._add_blocks(number, tie)
        self.lines = lines_at(self.lots, self.blocks)

    def _add_lots(self, point, rows):
        homes = [None] * len(rows[0])
        leads = [0] * len(rows[0])
        for spot in range(len(rows[0])):
            if homes[spot] is None:
                stays = tuple([member for member in range(len(rows)) if rows[member][spot] == spot])
                for member in range(len(rows) - 1, -1, -1):
                    homes[rows[member][spot]] = len(self.lots)
                    leads[rows[member][spot]] = member
                self.lots.append(Lot(point, spot, stays))
        self.homes.append(homes)
        self.leads.append(leads)

    def _add_blocks(self, number, tie):
        begin, end, pairs = tie
        row = self.world.moves[begin]
        for spot, goal in self.world.pairs[number - 1]:
            if (number, spot) not in self.block_at:
                many = 0
                for member, carried in pairs:
                    if row[member][spot] == spot:
                        many += 1
                    self.block_at.setdefault((number, row[member][spot]), (len(self.blocks), member, carried))
                ends = (self.homes[begin][spot], self.homes[end][goal])
                leads = (self.leads[begin][spot], self.leads[end][goal])
                self.blocks.append(Block(number, (spot, goal), ends, leads, many))

    def block_of(self, tie, spot, goal):
        """The block of the pair of a spot and a goal at a directed tie, with a pair of the tie.

        The pair leads the block's least pair to this one; gone back, both are turned round.
        """
        if tie > 0:
            return self.block_at[(tie, spot)]
        number, member, carried = self.block_at[(-tie, goal)]
        return number, carried, member

    def reached(self):
        """For each lot that the first one hangs together with, the line by which it is met first.

        The first lot has None; the lots stand in the sequence in which they are met.
        """
        met = {0: None}
        waiting = [0]
        at = 0
        while at < len(waiting):
            lot = waiting[at]
            for number, way in self.lines[lot]:
                goal = end_of_line(self.blocks[number], way)
                if goal not in met:
                    met[goal] = (number, way)
                    waiting.append(goal)
            at += 1
        return met


def lines_at(lots, blocks):
    """For each lot the pairs of a block and 1 where it begins there, -1 where it ends there."""
    lines = [[] for _ in lots]
    for number, block in enumerate(blocks):
        lines[block.source].append((number, 1))
        lines[block.target].append((number, -1))
    return lines


def end_of_line(block, way):
    """The lot to which a block leads, gone so or, where `way` is -1, back."""
    return block.target if way == 1 else block.source


def step_along(web, frame, number, way):
    """The road along a block from the least spot of a lot to that of another one."""
    block = frame.blocks[number]
    begin, end, _ = web.ties[block.tie - 1]
    if way == 1:
        return (block.spot_lead, block.tie, web.rooms[end].contraries[block.goal_lead])
    return (block.goal_lead, -block.tie, web.rooms[begin].contraries[block.spot_lead])


def roads_to_lots(web, frame):
    """For each lot that is reached a road from the begin to its least spot, by the lots."""
    roads = {}
    met = frame.reached()
    for lot in met:
        if met[lot] is None:
            roads[lot] = (0,)
        else:
            number, way = met[lot]
            ahead = roads[end_of_line(frame.blocks[number], -way)]
            roads[lot] = joined_walk(web, 0, ahead, step_along(web, frame, number, way))
    return roads


def closing_words(web, frame, roads):
    """The plain words, one for each block outside a tree of all lots, that go around by it."""
    tree = {line[0]: True for line in frame.reached().values() if line is not None}
    words = []
    for number in range(len(frame.blocks)):
        if number not in tree:
            block = frame.blocks[number]
            ahead = joined_walk(web, 0, roads[block.source], step_along(web, frame, number, 1))
            words.append(plain_walk(web, joined_walk(web, 0, ahead, walk_back(web, 0, roads[block.target]))))
    return tuple(words)


def staying_word(web, road, member):
    """The plain word that goes along a road, takes a member there, and goes back."""
    ahead = joined_walk(web, 0, road, (member,))
    return plain_walk(web, joined_walk(web, 0, ahead, walk_back(web, 0, road)))


def staying_words(web, frame, roads):
    """Plain words that make the members that leave the least spots of all lots."""
    words = []
    for number, lot in enumerate(frame.lots):
        for member in few_makers(web.rooms[lot.point], lot.stays):
            words.append(staying_word(web, roads[number], member))
    return tuple(words)


def kept_lots(frame, held):
    """Whether each lot is kept when those are left out that only end something.

    The lot `held` is kept in any case; it can be None.
    """
    kept = [True] * len(frame.lots)
    waiting = list(range(len(frame.lots)))
    while waiting:
        number = waiting.pop()
        if not kept[number] or number == held:
            continue
        ends = kept_ends(frame, kept, number)
        if len(ends) == 1 and frame.blocks[ends[0][0]].many == len(frame.lots[number].stays):
            kept[number] = False
            waiting.append(end_of_line(frame.blocks[ends[0][0]], ends[0][1]))
    return kept


def kept_ends(frame, kept, number):
    """The lines of a lot that lead to lots that are kept."""
    return [(block, way) for block, way in frame.lines[number] if kept[end_of_line(frame.blocks[block], way)]]


def is_any_block_kept(frame, kept):
    """Whether some block goes between lots that are kept."""
    return any([kept[block.source] and kept[block.target] for block in frame.blocks])
