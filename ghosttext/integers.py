"""Which values are integers of a given range."""

from ghosttext.errors import InvalidNumberError


def is_integer_from(value, least, most=None):
    """Return whether any value is an integer from the least one on, at most the most, if given."""
    if not isinstance(value, int) or isinstance(value, bool):
        return False
    return value >= least and (most is None or value <= most)


def check_integer(value, least, most=None):
    """Raise InvalidNumberError if the value is not an integer of the range."""
    if not is_integer_from(value, least, most):
        raise InvalidNumberError("the value is not an integer of the required range")


def check_index(value, many):
    """Raise InvalidNumberError if the value is no index of so many things."""
    check_integer(value, 0, many - 1)
