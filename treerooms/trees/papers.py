"""Words told by a core or a member, worked out without checking what is passed."""

from treerooms.webs.walks import is_walk, joined_walk, pinch_places, plain_walk, walk_back, walk_end


class Paper:
    """A word as `by`, then a core or a member at a point, then `by` gone back.

    `middle` is the core, or the member as a road without ties.
    """

    def __init__(self, point, middle, by):
        self.point = point
        self.middle = middle
        self.by = by

    def is_long(self):
        """Whether the word is long."""
        return len(self.middle) > 1

    def length(self):
        """The length of the word, 0 if it comes round."""
        return len(self.middle) // 2


def paper_of(web, word):
    """The paper of a word, whose plain form is cut off at both ends as long as its seam has a pinch."""
    form = list(plain_walk(web, word))
    first, last = 0, len(form) - 1
    point = 0
    carried = seam_carried(web, point, form, first, last)
    while carried is not None:
        point = web.side(form[first + 1]).target
        first, last = first + 2, last - 2
        form[last] = web.rooms[point].table[form[last]][carried]
        carried = seam_carried(web, point, form, first, last)
    return Paper(point, tuple(form[first:last + 1]), (*form[:first], 0))


def seam_carried(web, point, road, first, last):
    """What the stay at the seam is carried to by the first tie, None if there is no pinch.

    The part of the road from the index `first` to `last` leads from the point to itself.
    """
    if first == last or road[first + 1] != -road[last - 1]:
        return None
    stay = web.rooms[point].table[road[last]][road[first]]
    return web.side(road[first + 1]).carries[stay]


def is_core(web, point, value):
    """Whether the value is a core at the point, with any number of ties."""
    if not is_walk(web, point, value) or len(value) == 1 or walk_end(web, point, value) != point:
        return False
    return not pinch_places(web, value) and seam_carried(web, point, value, 0, len(value) - 1) is None


def led_word(web, by, middle):
    """The plain word that is `by` from the point 0, `middle`, and `by` gone back."""
    ahead = joined_walk(web, 0, by, middle)
    return plain_walk(web, joined_walk(web, 0, ahead, walk_back(web, 0, by)))
