"""Exact fractions."""

from math import gcd

from creditturns.checks import is_integer
from creditturns.errors import BadRatio, BadText
from creditturns.words import check_text, is_figures

MOST_FIGURES = 4000


class Ratio:
    """The exact fraction of two integers, in lowest terms; bottom is above 0."""

    def __init__(self, top, bottom=1):
        if not is_integer(top):
            raise BadRatio("top")
        if not is_integer(bottom) or bottom == 0:
            raise BadRatio("bottom")
        shared = gcd(top, bottom)
        if bottom < 0:
            shared = -shared
        self.top = top // shared
        self.bottom = bottom // shared

    @classmethod
    def read(cls, text):
        """The Ratio with just this text."""
        check_text(text)
        figures = text.removeprefix("-").split("/")
        if len(figures) > 2 or not all([is_readable(word) for word in figures]) or figures[1:] == ["0"]:
            raise BadText(0, 0)
        top = int(figures[0])
        bottom = int(figures[-1]) if len(figures) == 2 else 1
        ratio = cls(-top if text.startswith("-") else top, bottom)
        # A text that is not in lowest terms, or writes -0 or a bottom of 1, is read, but not written so.
        if str(ratio) != text:
            raise BadText(0, 0)
        return ratio

    def __add__(self, other):
        return sum_of(self, as_ratio(other))

    def __radd__(self, other):
        return sum_of(as_ratio(other), self)

    def __sub__(self, other):
        return sum_of(self, -as_ratio(other))

    def __rsub__(self, other):
        return sum_of(as_ratio(other), -self)

    def __mul__(self, other):
        return product_of(self, as_ratio(other))

    def __rmul__(self, other):
        return product_of(as_ratio(other), self)

    def __floordiv__(self, other):
        return whole_times(self, as_ratio(other))

    def __rfloordiv__(self, other):
        return whole_times(as_ratio(other), self)

    def __mod__(self, other):
        return what_is_left(self, as_ratio(other))

    def __rmod__(self, other):
        return what_is_left(as_ratio(other), self)

    def __neg__(self):
        return Ratio(-self.top, self.bottom)

    def __abs__(self):
        return Ratio(abs(self.top), self.bottom)

    def __bool__(self):
        return bool(self.top != 0)

    def over(self, other):
        """This one divided by a Ratio or an integer that is not 0."""
        under = as_ratio(other)
        if under.top == 0:
            raise BadRatio("other")
        return Ratio(self.top * under.bottom, self.bottom * under.top)

    def ceiling(self):
        """The least integer that is at least this one."""
        return -(-self.top // self.bottom)

    def __lt__(self, other):
        return is_below(self, as_ratio(other))

    def __le__(self, other):
        return not is_below(as_ratio(other), self)

    def __gt__(self, other):
        return is_below(as_ratio(other), self)

    def __ge__(self, other):
        return not is_below(self, as_ratio(other))

    def __eq__(self, other):
        if isinstance(other, Ratio):
            return self.top == other.top and self.bottom == other.bottom
        return is_integer(other) and self.bottom == 1 and self.top == other

    def __str__(self):
        if self.bottom == 1:
            return str(self.top)
        return f"{self.top}/{self.bottom}"


def as_ratio(value):
    """Any value that is a Ratio or an integer, as a Ratio."""
    if isinstance(value, Ratio):
        return value
    if not is_integer(value):
        raise BadRatio("other")
    return Ratio(value)


def sum_of(one, other):
    return Ratio(one.top * other.bottom + other.top * one.bottom, one.bottom * other.bottom)


def product_of(one, other):
    return Ratio(one.top * other.top, one.bottom * other.bottom)


def whole_times(one, other):
    """How many whole times the other one, which must be above 0, is in one."""
    if other.top <= 0:
        raise BadRatio("other")
    return one.top * other.bottom // (one.bottom * other.top)


def what_is_left(one, other):
    """What is left of one when the other one is taken from it whole times."""
    return one - other * whole_times(one, other)


def is_below(one, other):
    return one.top * other.bottom < other.top * one.bottom


def is_readable(word):
    """Whether a word is an integer from 0 on with no more figures than a text of a Ratio has."""
    return len(word) <= MOST_FIGURES and is_figures(word)
