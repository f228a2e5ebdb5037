"""The errors that the program raises."""


class TreeError(ValueError):
    """A value that is not what its parameter asks for."""


class InvalidRoom(TreeError):
    """What was passed is no room, or makes none."""


class InvalidWeb(TreeError):
    """What was passed is no web, or makes none."""


class InvalidRoad(TreeError):
    """What was passed is no road, word or place of the web."""


class InvalidWorld(TreeError):
    """What was passed is no world, or makes none."""


class InvalidTable(TreeError):
    """What was passed is no table."""


class InvalidName(TreeError):
    """What was passed is no name."""


class InvalidOperation(TreeError):
    """What was asked for cannot be done with these values."""


class ParseError(TreeError):
    """A text that cannot be read; `at` tells where."""

    def __init__(self, at):
        super().__init__("the text cannot be read")
        self.at = at


class InvalidNumber(IndexError):
    """A number outside of what its parameter takes; `given` keeps it."""

    def __init__(self, given):
        super().__init__("the number is not one that is taken here")
        self.given = given


class UnknownName(KeyError):
    """A name that stands for nothing; `wanted` keeps it."""

    def __init__(self, wanted):
        super().__init__("the name is not known")
        self.wanted = wanted


class TooMany(OverflowError):
    """More than the bound; `most` keeps the bound."""

    def __init__(self, most):
        super().__init__("there are too many")
        self.most = most


class Refused(ArithmeticError):
    """What the values do not allow; `reason` is a tuple, a word first."""

    def __init__(self, reason):
        super().__init__("the values do not allow this")
        self.reason = reason


class NothingToUndo(LookupError):
    """More steps back than there are; `steps` keeps what was asked."""

    def __init__(self, steps):
        super().__init__("there is nothing to undo")
        self.steps = steps
