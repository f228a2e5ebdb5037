"""Changes of webs that keep the words."""

from treerooms.base.leading import room_of_lot
from treerooms.base.rooms import check_lot
from treerooms.errors import InvalidOperation, TooMany
from treerooms.kin.drawing import Drawing, lead_home, lead_on
from treerooms.kin.leads import Lead, idle_roads, lead_behind, lone_stays, lone_steps
from treerooms.webs.roads import check_start, check_word
from treerooms.webs.walks import walk_back
from treerooms.webs.webs import MAX_POINTS, MAX_TIES, MadeWeb, check_tie, check_web, is_needed, tree_taken


class Change:
    """A web, and how the words of another one, the start, are led to its words and back; it never changes."""

    def __init__(self, lead, lead_back):
        self._lead = lead
        self._lead_back = lead_back

    @property
    def start(self):
        """The web whose words are led."""
        return self._lead.source

    @property
    def web(self):
        """The web to whose words they are led."""
        return self._lead.goal

    def there(self, word):
        """The plain word of the new web to which a word of the start is led."""
        check_word(self._lead.source, word)
        return self._lead.word_led(word)

    def back(self, word):
        """The plain word of the start to which a word of the new web is led back."""
        check_word(self._lead.goal, word)
        return self._lead_back.word_led(word)

    def behind(self, other):
        """First the other change, and then this one."""
        if not isinstance(other, Change) or other._lead.goal != self._lead.source:
            raise InvalidOperation("the new web of the first change is the start of the second one")
        return Change(lead_behind(other._lead, self._lead), lead_behind(self._lead_back, other._lead_back))

    def __str__(self):
        return f"change of {self._lead.source.points} points to {self._lead.goal.points}"


def change_by_drawing(drawing):
    """The change from the first web of a drawing to what is left."""
    goal = drawing.made_web()
    return Change(lead_on(drawing, goal), lead_home(drawing, goal))


def drawn_together(web, tie):
    """The change that draws a tie together that is not needed."""
    check_web(web)
    check_tie(web, tie)
    if is_needed(web, web.ties[abs(tie) - 1]):
        raise InvalidOperation("a tie that is needed is not drawn together")
    drawing = Drawing(web)
    drawing.draw(abs(tie))
    return change_by_drawing(drawing)


def check_space(web):
    """Refuse a web that has no space for one more point and one more tie."""
    if web.points >= MAX_POINTS:
        raise TooMany(MAX_POINTS)
    if web.size >= MAX_TIES:
        raise TooMany(MAX_TIES)


def change_by_room(web, point, lot, ties, steps, back_steps):
    """The change to a web with the lot at the point as the room of a new point.

    `steps` and `back_steps` have the roads of the directed ties that are led otherwise than to themselves.
    """
    goal = MadeWeb(web.rooms + (room_of_lot(web.rooms[point], lot),), ties)
    spans, own_stays, own_steps = tuple(range(web.points)), lone_stays(web), lone_steps(web)
    there = Lead(web, goal, spans, own_stays, {**own_steps, **steps}, (0,))
    stays = own_stays + (tuple([(member,) for member in lot]),)
    back = Lead(goal, web, spans + (point,), stays, {**own_steps, **back_steps}, (0,))
    return Change(there, back)


def put_in(web, point, lot):
    """The change that puts a lot of the room at a point in as the room of a new point."""
    check_start(web, point)
    check_lot(web.rooms[point], lot)
    check_space(web)
    new = web.size + 1
    tie = (point, web.points, tuple([(member, number) for number, member in enumerate(lot)]))
    return change_by_room(web, point, lot, web.ties + (tie,), {}, {new: (0,), -new: (0,)})


def halved(web, tie):
    """The change that gives a tie a new point in its middle."""
    check_web(web)
    check_tie(web, tie)
    check_space(web)
    number, new, middle = abs(tie), web.size + 1, web.points
    begin, end, pairs = web.ties[number - 1]
    first = (begin, middle, tuple([(pair[0], at) for at, pair in enumerate(pairs)]))
    second = (middle, end, tuple([(at, pair[1]) for at, pair in enumerate(pairs)]))
    steps = {number: (0, number, 0, new, 0), -number: (0, -new, 0, -number, 0)}
    back_steps = {number: (0,), -number: (0,), new: (0, number, 0), -new: (0, -number, 0)}
    ties = web.ties[:number - 1] + (first,) + web.ties[number:] + (second,)
    return change_by_room(web, begin, web.side(number).within, ties, steps, back_steps)


def begun_at(web, point):
    """The change by which the points 0 and `point` change their numbers."""
    check_start(web, point)
    numbers = list(range(web.points))
    numbers[0], numbers[point] = point, 0
    ties = tuple([(numbers[begin], numbers[end], pairs) for begin, end, pairs in web.ties])
    goal = MadeWeb(tuple([web.rooms[number] for number in numbers]), ties)
    road = idle_roads(web, tree_taken(web.points, web.ties), 0)[point]
    spans, steps = tuple(numbers), lone_steps(web)
    there = Lead(web, goal, spans, lone_stays(web), steps, walk_back(web, 0, road))
    return Change(there, Lead(goal, web, spans, lone_stays(goal), steps, road))


def all_needed(web):
    """The change that draws ties together as long as there is one that is not needed."""
    check_web(web)
    drawing = Drawing(web)
    drawing.draw_all()
    return change_by_drawing(drawing)
