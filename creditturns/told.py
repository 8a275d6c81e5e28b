"""Quanta that are told back from stretches: which of them explain what was sent in each turn."""

from creditturns.checks import is_just
from creditturns.errors import BadTurns
from creditturns.lengths import is_length


class Quanta:
    """A paper: the least and the most quantum that will do, and the places of the turns that bar the next ones."""

    def __init__(self, least, most, low, high):
        self.least = least
        self.most = most
        self.low = low
        self.high = high

    def __bool__(self):
        return True

    def __eq__(self, other):
        return (isinstance(other, Quanta) and self.least == other.least and self.most == other.most
                and self.low == other.low and self.high == other.high)


class Clash:
    """A paper: no quantum will do, for one turn bars all that are small, and one all that are great."""

    def __init__(self, low, high):
        self.low = low
        self.high = high

    def __bool__(self):
        return False

    def __eq__(self, other):
        return isinstance(other, Clash) and self.low == other.low and self.high == other.high


class Bounds:
    """The least quantum with which what a turn tells has been sent, and the most one, None without a packet behind it.

    With a greater one that packet would have been sent, too.  place is the pair of the indexes of the stretch
    and of the turn.
    """

    def __init__(self, place, least, most):
        self.place = place
        self.least = least
        self.most = most

    def bars(self, first, last):
        """Whether the turn bars all quanta from first to last, None for those without an end."""
        begin = max(int(first), int(self.least))
        return any([end is not None and end < begin for end in (self.most, last)])


def quanta(*stretches):
    """The Quanta that explain some whole stretches of one flow, or a Clash."""
    for at, stretch in enumerate(stretches):
        if not is_stretch(stretch):
            raise BadTurns(at)
    bounds = [one for at, stretch in enumerate(stretches) for one in bounds_of(at, stretch)]
    least = max([int(one.least) for one in bounds], default=1)
    most = min([int(one.most) for one in bounds if one.most is not None], default=None)
    low = None if least == 1 else first_that_bars(bounds, 1, least - 1)
    high = None if most is None else first_that_bars(bounds, max(1, most + 1), None)
    if most is not None and most < least:
        return Clash(low, high)
    return Quanta(least, most, low, high)


def shows_quanta(value, *stretches):
    """Whether any value is the Quanta or the Clash of some stretches."""
    right = quanta(*stretches)
    if isinstance(right, Clash):
        return isinstance(value, Clash) and is_just(value.low, right.low) and is_just(value.high, right.high)
    if not isinstance(value, Quanta) or not is_just(value.low, right.low) or not is_just(value.high, right.high):
        return False
    return is_just(value.least, right.least) and is_just(value.most, right.most)


def is_stretch(value):
    """Whether any value is a list or tuple of turns, at least one, the last one not empty."""
    if not isinstance(value, (list, tuple)) or len(value) == 0:
        return False
    return all([is_sent(turn) for turn in value]) and len(value[-1]) > 0


def is_sent(value):
    """Whether any value is a tuple of lengths."""
    return isinstance(value, tuple) and all([is_length(length) for length in value])


def bounds_of(at, stretch):
    """The list of the Bounds of the turns of the stretch with this index."""
    packets = [length for turn in stretch for length in turn]
    bounds = []
    many = bits = 0
    for ahead, turn in enumerate(stretch):
        many = many + len(turn)
        bits = bits + sum(turn)
        most = None if many == len(packets) else (bits + packets[many] - 1) // (ahead + 1)
        bounds.append(Bounds((at, ahead), -(-bits // (ahead + 1)), most))
    return bounds


def first_that_bars(bounds, first, last):
    """The place of the first turn that bars all quanta from first to last."""
    return [one.place for one in bounds if one.bars(first, last)][0]
