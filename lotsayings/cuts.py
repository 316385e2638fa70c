"""Integers, their bounds, and numbers cut by (t, d)."""

from lotsayings.errors import BadNumber


def is_int(value):
    """Whether value is an integer; True and False are none."""
    return isinstance(value, int) and not isinstance(value, bool)


def is_between(value, low, high):
    """Whether value is an integer from low to high."""
    return is_int(value) and low <= value <= high


def are_integers(value, many):
    """Whether value is a tuple or list of so many integers."""
    return isinstance(value, (list, tuple)) and len(value) == many and all([is_int(number) for number in value])


def check_number(value, which, low, high):
    """Value, if it is an integer from low to high (None: no bound), else BadNumber(which)."""
    if not is_int(value):
        raise BadNumber(which)
    if low is not None and value < low:
        raise BadNumber(which)
    if high is not None and value > high:
        raise BadNumber(which)
    return value


def folded(number, t, d):
    """Number cut by (t, d), with nothing judged."""
    if number < t:
        return number
    return t + (number - t) % d


def cut(number, t, d):
    """Number cut by (t, d): itself below t, else the least one from t on with the same rest by d."""
    check_number(number, "number", 0, None)
    check_number(t, "t", 0, 4)
    check_number(d, "d", 1, 6)
    return folded(number, t, d)
