"""Which values are integers, counts and names, and the checks that several files share."""

from creditturns.errors import BadArrivals, BadNumber, TooMany

MOST_MOMENT = 10 ** 12
MOST_PACKETS = 300
MOST_LETTERS = 8


def is_integer(value):
    """Whether any value is an integer; True and False are none."""
    return isinstance(value, int) and not isinstance(value, bool)


def is_count(value):
    """Whether any value is an integer from 0 on."""
    return is_integer(value) and value >= 0


def is_within(value, least, most):
    """Whether any value is an integer from least to most."""
    return is_integer(value) and least <= value <= most


def is_name(value):
    """Whether any value is a string of 1 to 8 letters from a to z."""
    if not isinstance(value, str) or len(value) > MOST_LETTERS:
        return False
    return value.isascii() and value.isalpha() and value.islower()


def is_just(value, right):
    """Whether any value is the right one of its very kind: None, an integer, or a tuple of such."""
    if isinstance(right, tuple):
        if not isinstance(value, tuple) or len(value) != len(right):
            return False
        return all([is_just(one, other) for one, other in zip(value, right)])
    return value is None if right is None else is_integer(value) and value == right


def check_count(value):
    if not is_count(value):
        raise BadNumber(value)


def check_packets(packets):
    """Refuse what is no list or tuple, or has more items than there may be packets."""
    if not isinstance(packets, (list, tuple)):
        raise BadArrivals(None)
    if len(packets) > MOST_PACKETS:
        raise TooMany("packets", MOST_PACKETS)
