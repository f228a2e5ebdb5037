"""Which values are integers, and which integers are taken."""

from treerooms.errors import InvalidNumber

# Integers that are passed have at most sixty digits.
TOO_LONG = 10 ** 60


def is_integer(value):
    """Whether the value is an integer; True and False are none."""
    return type(value) is int


def is_within(value, least, most):
    """Whether the value is an integer from `least` to `most`."""
    return type(value) is int and least <= value <= most


def is_count(value):
    """Whether the value is an integer from 0 on that is not too long."""
    return is_within(value, 0, TOO_LONG - 1)


def check_number(value, least, most):
    """Refuse what is no integer from `least` to `most`."""
    if not is_within(value, least, most):
        raise InvalidNumber(value)
