"""A desk that keeps plain words by names, and sayings about them that are true at every time."""

from treerooms.base.checks import TOO_LONG, is_integer, is_within
from treerooms.desk.deeds import words_behind
from treerooms.desk.sayings import first_unknown, is_said_truly, names_told, touched_sayings
from treerooms.errors import InvalidNumber, InvalidOperation, NothingToUndo, Refused, TooMany, UnknownName
from treerooms.webs.roads import is_short_word
from treerooms.webs.webs import check_web

MAX_NAME = 8
MAX_SAID = 20
MOST_KEPT = 24
MOST_POWER = 6

# A saying tells of so many words at most that they make a stock.
MOST_NAMES = 3

# What stands behind the head of each saying and each deed.
SAYING_PARTS = {
    "nothing": ("name",),
    "equal": ("name", "name"),
    "alike": ("name", "name"),
    "order": ("name", "number"),
    "length": ("name", "number"),
    "still": ("name",),
    "within": ("name", "names"),
}
DEED_PARTS = {
    "put": ("name", "word"),
    "take": ("name",),
    "same": ("name", "name"),
    "times": ("name", "name", "name"),
    "back": ("name",),
    "raised": ("name", "many"),
    "turned": ("name", "name"),
}


class Desk:
    """Words of a web by names, sayings, and the moves that can be taken back."""

    def __init__(self, web):
        check_web(web)
        self._web = web
        self._words = {}
        self._names = ()
        self._sayings = ()
        # The words and sayings ahead of each move.
        self._moves = ()

    @property
    def web(self):
        """The web of the words."""
        return self._web

    @property
    def kept(self):
        """The plain words, by their names."""
        return {name: self._words[name] for name in self._names}

    @property
    def sayings(self):
        """The sayings, in the sequence in which they were said."""
        return self._sayings

    @property
    def past(self):
        """The number of the moves that can be taken back."""
        return len(self._moves)

    def do(self, *deeds):
        """Do the deeds in turn."""
        if not all([is_deed(self._web, deed) for deed in deeds]):
            raise InvalidOperation("a deed is a tuple of a head, names and what else it needs")
        words = words_behind(self._web, self._words, deeds, MOST_KEPT)
        for saying in self._sayings:
            if first_unknown(words, names_told(saying)) is not None:
                raise Refused(("taken", saying))
        for saying in touched_sayings(self._sayings, self._words, words):
            if not is_said_truly(self._web, words, saying):
                raise Refused(("broken", saying))
        self._move(words, self._sayings)

    def say(self, saying):
        """Keep a saying."""
        if not is_saying(self._web, saying) or not has_short_number(saying):
            raise InvalidOperation("a saying is a tuple of a head, names and what else it needs")
        unknown = first_unknown(self._words, names_told(saying))
        if unknown is not None:
            raise UnknownName(unknown)
        if saying in self._sayings:
            return
        if len(self._sayings) >= MAX_SAID:
            raise TooMany(MAX_SAID)
        if not is_said_truly(self._web, self._words, saying):
            raise Refused(("false",))
        self._move(self._words, self._sayings + (saying,))

    def unsay(self, saying):
        """Keep a saying no more."""
        # A tuple with True in the place of 1 is equal to a saying, but none.
        if not is_saying(self._web, saying) or saying not in self._sayings:
            raise UnknownName(saying)
        self._move(self._words, tuple([one for one in self._sayings if one != saying]))

    def is_true(self, value):
        """Whether the value is a saying about names of the desk that is true now."""
        if not is_saying(self._web, value) or first_unknown(self._words, names_told(value)) is not None:
            return False
        return is_said_truly(self._web, self._words, value)

    def undo(self, steps=1):
        """Take back the last moves."""
        if not is_within(steps, 1, TOO_LONG - 1):
            raise InvalidNumber(steps)
        if steps > len(self._moves):
            raise NothingToUndo(steps)
        words, sayings = self._moves[-steps]
        self._moves = self._moves[:-steps]
        self._set(words, sayings)

    def twin(self):
        """Another desk with the same words, sayings and moves."""
        other = Desk(self._web)
        other._moves = self._moves
        other._set(self._words, self._sayings)
        return other

    def _move(self, words, sayings):
        if words != self._words or sayings != self._sayings:
            self._moves = self._moves + ((self._words, self._sayings),)
            self._set(words, sayings)

    def _set(self, words, sayings):
        # The words that are kept are never changed, so that moves and twins can share them.
        self._words = words
        self._names = tuple(sorted(words))
        self._sayings = sayings

    def __contains__(self, name):
        return isinstance(name, str) and name in self._words

    def __getitem__(self, name):
        if not isinstance(name, str) or name not in self._words:
            raise UnknownName(name)
        return self._words[name]

    def __iter__(self):
        return iter(self._names)

    def __len__(self):
        return len(self._names)

    def __eq__(self, other):
        if not isinstance(other, Desk) or self._web != other._web:
            return False
        return self._words == other._words and self._sayings == other._sayings

    def __str__(self):
        return f"desk of {len(self._names)} words, {len(self._sayings)} sayings"


def is_name(value):
    """Whether the value is a string of one to eight letters from a to z."""
    if not isinstance(value, str) or not 1 <= len(value) <= MAX_NAME:
        return False
    return all(["a" <= sign <= "z" for sign in value])


def are_few_names(value):
    """Whether the value is a tuple of one to three names."""
    return isinstance(value, tuple) and 1 <= len(value) <= MOST_NAMES and all([is_name(name) for name in value])


def is_part(web, kind, value):
    """Whether the value is a part of this kind of a saying or a deed."""
    if kind == "name":
        return is_name(value)
    if kind == "names":
        return are_few_names(value)
    if kind == "number":
        return is_integer(value)
    if kind == "many":
        return is_within(value, -MOST_POWER, MOST_POWER)
    return is_short_word(web, value)


def has_head(value):
    """Whether the value is a tuple with a string ahead."""
    return isinstance(value, tuple) and len(value) > 0 and isinstance(value[0], str)


def has_parts(web, kinds, value):
    """Whether parts of these kinds stand behind the head of the value; the kinds are None for a head that is none."""
    if kinds is None or len(value) != len(kinds) + 1:
        return False
    return all([is_part(web, kind, part) for kind, part in zip(kinds, value[1:])])


def is_saying(web, value):
    """Whether the value has the form of a saying, with a number of any length."""
    return has_head(value) and has_parts(web, SAYING_PARTS.get(value[0]), value)


def has_short_number(saying):
    """Whether the number of a saying, if there is one, has at most sixty digits."""
    return not is_integer(saying[-1]) or abs(saying[-1]) < TOO_LONG


def is_deed(web, value):
    """Whether the value is a deed."""
    return has_head(value) and has_parts(web, DEED_PARTS.get(value[0]), value)
