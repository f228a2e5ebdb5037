"""Ties that are drawn together one after the other."""

from treerooms.kin.leads import Lead, idle_roads, lone_stays
from treerooms.webs.walks import walk_back
from treerooms.webs.webs import MadeWeb, is_needed


class Drawing:
    """A web, some ties of which were drawn together; points and ties keep the numbers that they have in the web."""

    def __init__(self, web):
        self.ground = web
        self.open_ties = dict(enumerate(web.ties, start=1))
        # The points that are left, in the sequence of their new numbers.
        self.left_points = list(range(web.points))
        # For each point the point into which it was drawn, and what its members were carried to.
        self.homes = list(range(web.points))
        self.carried_rows = [tuple(range(room.size)) for room in web.rooms]
        self.drawn = {}

    def draw(self, number):
        """Draw a tie that is not needed together."""
        begin, end, pairs = self.open_ties.pop(number)
        if len(pairs) == self.ground.rooms[begin].size:
            gone, kept, carries = begin, end, dict(pairs)
        else:
            gone, kept, carries = end, begin, {goal: member for member, goal in pairs}
        self.drawn[number] = True
        self.open_ties = {other: moved_tie(tie, gone, kept, carries) for other, tie in self.open_ties.items()}
        at, other_at = self.left_points.index(gone), self.left_points.index(kept)
        self.left_points[min(at, other_at)] = kept
        del self.left_points[max(at, other_at)]
        for point in range(self.ground.points):
            if self.homes[point] == gone:
                self.homes[point] = kept
                self.carried_rows[point] = tuple([carries[member] for member in self.carried_rows[point]])

    def least_unneeded(self):
        """The least tie that is not needed, None if all that are left are."""
        for number, tie in self.open_ties.items():
            if not is_needed(self.ground, tie):
                return number
        return None

    def draw_all(self):
        """Draw the least tie that is not needed together, as long as there is one."""
        number = self.least_unneeded()
        while number is not None:
            self.draw(number)
            number = self.least_unneeded()

    def new_numbers(self):
        """The new number of each point that is left."""
        return {point: number for number, point in enumerate(self.left_points)}

    def made_web(self):
        """The web that is left."""
        numbers = self.new_numbers()
        ties = [(numbers[begin], numbers[end], pairs) for begin, end, pairs in self.open_ties.values()]
        return MadeWeb(tuple([self.ground.rooms[point] for point in self.left_points]), tuple(ties))


def moved_tie(tie, gone, kept, carries):
    """The tie with the point `kept` in the place of the point `gone`, the members of which are carried there."""
    begin, end, pairs = tie
    if begin == gone:
        begin, pairs = kept, [(carries[member], goal) for member, goal in pairs]
    if end == gone:
        end, pairs = kept, [(member, carries[goal]) for member, goal in pairs]
    return begin, end, tuple(sorted(pairs))


def lead_on(drawing, goal):
    """The lead to the web that is left."""
    numbers = drawing.new_numbers()
    stays = [tuple([(member,) for member in row]) for row in drawing.carried_rows]
    steps = {}
    for number in drawing.drawn:
        steps[number] = (0,)
        steps[-number] = (0,)
    for new, number in enumerate(drawing.open_ties, start=1):
        steps[number] = (0, new, 0)
        steps[-number] = (0, -new, 0)
    spans = tuple([numbers[home] for home in drawing.homes])
    # Whatever the point 0 was drawn into has the number 0.
    return Lead(drawing.ground, goal, spans, tuple(stays), steps, (0,))


def lead_home(drawing, goal):
    """The lead from the web that is left to the first one, along the ties that were drawn together."""
    web = drawing.ground
    roads = {}
    for home in drawing.left_points:
        roads.update(idle_roads(web, drawing.drawn, home))
    backs = {point: walk_back(web, drawing.homes[point], road) for point, road in roads.items()}
    steps = {}
    for new, number in enumerate(drawing.open_ties, start=1):
        begin, end, _ = web.ties[number - 1]
        steps[new] = roads[begin] + (number,) + backs[end]
        steps[-new] = roads[end] + (-number,) + backs[begin]
    return Lead(goal, web, tuple(drawing.left_points), lone_stays(goal), steps, backs[0])
