"""How the roads of one web are led to those of another one, stay by stay and tie by tie."""

from treerooms.trees.papers import led_word
from treerooms.webs.walks import joined_walk, plain_walk


class Lead:
    """A way to lead the roads of one web, the source, to roads of another one, the goal.

    `spans` has the point to which each point is led, `stays` for each point the
    roads of its members, `steps` the road of each directed tie. `base` is a
    road from the point 0 of the goal to where the point 0 of the source is led.
    """

    def __init__(self, source, goal, spans, stays, steps, base):
        self.source = source
        self.goal = goal
        self.spans = spans
        self.stays = stays
        self.steps = steps
        self.base = base

    def led_from(self, point, road):
        """The road to which a road from the point is led."""
        done = list(self.stays[point][road[0]])
        for at in range(1, len(road), 2):
            self._go_on(done, point, self.steps[road[at]])
            point = self.source.side(road[at]).target
            self._go_on(done, point, self.stays[point][road[at + 1]])
        return tuple(done)

    def _go_on(self, done, point, road):
        table = self.goal.rooms[self.spans[point]].table
        done[-1] = table[done[-1]][road[0]]
        done.extend(list(road[1:]))

    def word_led(self, word):
        """The plain word to which a word is led."""
        return led_word(self.goal, self.base, self.led_from(0, word))


def lone_stays(web):
    """For each point the members of its room as roads without ties."""
    return tuple([tuple([(member,) for member in range(room.size)]) for room in web.rooms])


def lone_steps(web):
    """The directed ties as roads with the stay 0 on both sides."""
    steps = {}
    for tie in range(1, web.size + 1):
        steps[tie] = (0, tie, 0)
        steps[-tie] = (0, -tie, 0)
    return steps


def lead_behind(first, second):
    """First the one lead, and then the other one, from the goal of the first one on."""
    goal = second.goal
    stays = [
        tuple([plain_walk(goal, second.led_from(first.spans[point], road)) for road in roads])
        for point, roads in enumerate(first.stays)
    ]
    steps = {
        tie: plain_walk(goal, second.led_from(first.spans[first.source.side(tie).source], road))
        for tie, road in first.steps.items()
    }
    base = joined_walk(goal, 0, second.base, second.led_from(0, first.base))
    spans = tuple([second.spans[point] for point in first.spans])
    return Lead(first.source, goal, spans, tuple(stays), steps, plain_walk(goal, base))


def idle_roads(web, numbers, start):
    """For each point that ties with these numbers reach from a point, the road there with the stay 0 everywhere.

    The ties close no round.
    """
    roads = {start: (0,)}
    waiting = [start]
    while waiting:
        point = waiting.pop()
        for tie in web.beginnings(point):
            goal = web.side(tie).target
            if abs(tie) in numbers and goal not in roads:
                roads[goal] = roads[point] + (tie, 0)
                waiting.append(goal)
    return roads
