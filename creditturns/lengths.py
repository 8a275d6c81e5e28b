"""Sets of let lengths and their sums."""

from math import gcd

from creditturns.checks import check_count, is_integer, is_within
from creditturns.errors import BadLengths, BadNumber, NoSum
from creditturns.tables import least_sums
from creditturns.words import words_of


class Lengths:
    """A set of let lengths, integers from 1 to 60."""

    MOST = 60

    def __init__(self, *numbers):
        if not all([is_length(number) for number in numbers]):
            raise BadLengths("number")
        if len(numbers) == 0:
            raise BadLengths("none")
        self._numbers = tuple([number for number in range(1, Lengths.MOST + 1) if number in numbers])
        table = least_sums(self._numbers)
        self._rows = table[0]
        self._lasts = table[1]
        self._divisor = divisor_of(self._numbers)
        # A row less the shortest length is the greatest number with its rest that is no sum.
        greatest = max([int(row) for row in self._rows if row is not None])
        self._conductor = greatest - self._numbers[0] + self._divisor

    @classmethod
    def of(cls, numbers):
        """The Lengths of the items of a list or tuple."""
        if not isinstance(numbers, (list, tuple)):
            raise BadLengths("list")
        return cls(*numbers)

    @staticmethod
    def between(least, most):
        """The Lengths of all integers from least to most."""
        if not is_length(least) or not is_length(most):
            raise BadLengths("number")
        if least > most:
            raise BadLengths("order")
        numbers = list(range(least, most + 1))
        return Lengths(*numbers)

    @classmethod
    def read(cls, text):
        """The Lengths with just this text."""
        words = words_of(text)
        numbers = take_numbers(words)
        words.take_end()
        return cls(*numbers)

    @property
    def numbers(self):
        return self._numbers

    @property
    def shortest(self):
        return self._numbers[0]

    @property
    def longest(self):
        return self._numbers[-1]

    @property
    def divisor(self):
        return self._divisor

    @property
    def conductor(self):
        return self._conductor

    def __iter__(self):
        return iter(self._numbers)

    def __len__(self):
        return len(self._numbers)

    def __contains__(self, number):
        return is_integer(number) and number in self._numbers

    def __or__(self, other):
        check_lengths(other)
        numbers = self._numbers + other.numbers
        return Lengths(*numbers)

    def __and__(self, other):
        check_lengths(other)
        numbers = [number for number in self._numbers if number in other]
        return Lengths(*numbers)

    def __sub__(self, other):
        check_lengths(other)
        numbers = [number for number in self._numbers if number not in other]
        return Lengths(*numbers)

    def __le__(self, other):
        check_lengths(other)
        return all([number in other for number in self._numbers])

    def __lt__(self, other):
        return self <= other and len(self) < len(other)

    def __eq__(self, other):
        return isinstance(other, Lengths) and self._numbers == other._numbers

    def __str__(self):
        return " ".join([str(number) for number in self._numbers])

    def has(self, number):
        """Whether any value is a sum."""
        if not is_integer(number):
            return False
        row = self._rows[number % self.shortest]
        return row is not None and row <= number

    def floor(self, number):
        """The greatest sum that is at most this integer from 0 on."""
        check_count(number)
        # From the conductor on the sums are the multiples of the divisor.
        if number >= self._conductor:
            return number - number % self._divisor
        found = number
        while not self.has(found):
            found -= 1
        return found

    def ceiling(self, number):
        """The least sum that is at least this integer."""
        if not is_integer(number):
            raise BadNumber(number)
        if number >= self._conductor:
            return number + -number % self._divisor
        found = max(0, number)
        while not self.has(found):
            found += 1
        return found

    def taken(self, number):
        """A new dict that tells how many times each length is taken in a sum."""
        if not self.has(number):
            raise NoSum(number)
        parts = {}
        rest = number % self.shortest
        many = (number - self._rows[rest]) // self.shortest
        if many > 0:
            parts[self.shortest] = many
        while rest != 0:
            length = self._lasts[rest]
            parts[length] = parts.get(length, 0) + 1
            rest = (rest - length) % self.shortest
        return parts


def divisor_of(numbers):
    """The greatest common divisor of some numbers."""
    found = 0
    for number in numbers:
        found = gcd(found, number)
    return found


def is_length(value):
    """Whether any value is an integer from 1 to 60."""
    return is_within(value, 1, Lengths.MOST)


def check_lengths(lengths):
    if not isinstance(lengths, Lengths):
        raise BadLengths("lengths")


def take_numbers(words):
    """The ascending numbers that Words tell up to a colon or to their end, at least one."""
    numbers = [words.take_number(1, Lengths.MOST)]
    while not words.is_over() and not words.is_next(":"):
        numbers.append(words.take_number(numbers[-1] + 1, Lengths.MOST))
    return numbers
