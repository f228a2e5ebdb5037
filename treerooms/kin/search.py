"""A search through the webs to which slides and turned ties lead."""

from treerooms.kin.matches import Matching
from treerooms.kin.sketches import slid_ties, told_from, turned_ties


def steps_found(one, other):
    """A row of steps that leads the first web to the second one, None if they are not kin."""
    if sizes_of(one) != sizes_of(other):
        return None
    matching = Matching(one.rooms, other)
    search = Search(one, matching)
    at = 0
    while at < len(search.found):
        names = matching.names(search.found[at])
        if names is not None:
            return search.steps_to(at) + last_steps(matching, search.found[at], names)
        search.look_on(at)
        at += 1
    return None


def sizes_of(web):
    """What all steps leave: the sizes of the rooms, and of the lots of the ties."""
    return sorted([room.size for room in web.rooms]), sorted([len(pairs) for _, _, pairs in web.ties])


def last_steps(matching, ties, names):
    """The steps that turn the ties and rename them as those of the other web."""
    steps = ()
    for number, tie in enumerate(ties, start=1):
        by, end_by = matching.turning(tie, names[2][number - 1], names[1])
        if by != 0:
            steps = steps + (("turn", number, by),)
        if end_by != 0:
            steps = steps + (("turn", -number, end_by),)
    return steps + (("names", *names),)


class Search:
    """The ties that were found, each time with the steps that led to them.

    Ties are kept once, up to turning them, and up to their numbers and
    directions, since what leads on from them does so from all of these.
    """

    def __init__(self, web, matching):
        self.first_rooms = web.rooms
        self.turns = matching.turns
        self.leasts = {}
        self.found = []
        # For each ties found where they were found from, and by which steps.
        self.origins = []
        self.known = {}
        self.add(web.ties, None, ())

    def least_told(self, told):
        """The least way to tell a tie, up to turning it and its direction."""
        if told not in self.leasts:
            begin, end, pairs = told
            rows = []
            for turned in self.turns[begin].values():
                for end_turned in self.turns[end].values():
                    row = [(turned[one], end_turned[two]) for one, two in pairs]
                    rows.append((begin, end, tuple(sorted(row))))
                    rows.append((end, begin, tuple(sorted([(two, one) for one, two in row]))))
            self.leasts[told] = min(rows)
        return self.leasts[told]

    def add(self, ties, origin, steps):
        """Keep ties that are new."""
        key = tuple(sorted([self.least_told(tie) for tie in ties]))
        if key not in self.known:
            self.known[key] = True
            self.found.append(ties)
            self.origins.append((origin, steps))

    def look_on(self, at):
        """Add all ties to which a slide leads, perhaps behind a turn."""
        ties = self.found[at]
        directed = [sign * number for number in range(1, len(ties) + 1) for sign in (1, -1)]
        for tie in directed:
            begin, _, pairs = told_from(ties, tie)
            for over in directed:
                if told_from(ties, over)[0] == begin and len(told_from(ties, over)[2]) >= len(pairs):
                    self.slide_over(at, tie, over)

    def slide_over(self, at, tie, over):
        """Add the ties to which a slide leads behind each turn that lets it."""
        ties = self.found[at]
        for by in self.turns[told_from(ties, tie)[0]]:
            turned = turned_ties(self.first_rooms, ties, tie, by) if by != 0 else ties
            more = slid_ties(turned, tie, over)
            if more is not None:
                turn = (("turn", tie, by),) if by != 0 else ()
                self.add(more, at, turn + (("slide", tie, over),))

    def steps_to(self, at):
        """All steps that lead to the ties found at an index."""
        steps = ()
        origin, last = self.origins[at]
        while origin is not None:
            steps = last + steps
            origin, last = self.origins[origin]
        return steps
