"""Buckets: how many bits of a flow can come in how many moments."""

from creditturns.checks import MOST_MOMENT, check_count, check_packets, is_within
from creditturns.errors import BadArrivals, BadBucket
from creditturns.lengths import check_lengths, is_length
from creditturns.ratios import Ratio
from creditturns.words import words_of


class Bucket:
    """A burst, and a rate of bits for every so many ticks."""

    MOST_BURST = 1000000
    MOST_RATE = 1000
    MOST_EVERY = 1000

    def __init__(self, burst, rate, every):
        if not is_within(burst, 1, Bucket.MOST_BURST):
            raise BadBucket("burst")
        if not is_within(rate, 1, Bucket.MOST_RATE):
            raise BadBucket("rate")
        if not is_within(every, 1, Bucket.MOST_EVERY):
            raise BadBucket("every")
        self.burst = burst
        self.rate = rate
        self.every = every

    @classmethod
    def read(cls, text):
        """The Bucket with just this text."""
        words = words_of(text)
        burst = words.take_number(1, Bucket.MOST_BURST)
        rate = words.take_number(1, Bucket.MOST_RATE)
        every = words.take_number(1, Bucket.MOST_EVERY)
        words.take_end()
        return cls(burst, rate, every)

    def __call__(self, ticks):
        """The most bits that can come in ticks + 1 moments one behind another."""
        check_count(ticks)
        return bound_of(self, ticks)

    def earliest(self, bits):
        """How many ticks behind the first packet of so many bits the last one comes at the earliest."""
        check_count(bits)
        return self.every * max(0, -((self.burst - bits) // self.rate))

    @property
    def rate_of(self):
        return Ratio(self.rate, self.every)

    def fits(self, lengths):
        """Whether this bucket fits these Lengths."""
        check_lengths(lengths)
        return self.burst >= lengths.longest + self.rate - 1

    def lets(self, comings):
        """Whether packets, pairs of a moment and a length in the order of their arrivals, keep it."""
        check_comings(comings)
        return all([self._lets_from(comings, first) for first in range(len(comings))])

    def _lets_from(self, comings, first):
        """Whether the bound holds from the moment of one packet to that of each one behind it."""
        begin = comings[first][0]
        bits = 0
        for moment, length in comings[first:]:
            bits = bits + length
            if bits > bound_of(self, moment - begin):
                return False
        return True

    def __le__(self, other):
        check_other(other)
        return is_at_most(self, other)

    def __lt__(self, other):
        check_other(other)
        return is_at_most(self, other) and not self == other

    def __ge__(self, other):
        check_other(other)
        return is_at_most(other, self)

    def __gt__(self, other):
        check_other(other)
        return is_at_most(other, self) and not self == other

    def __eq__(self, other):
        return (isinstance(other, Bucket) and self.burst == other.burst
                and self.rate == other.rate and self.every == other.every)

    def __str__(self):
        return f"{self.burst} {self.rate} {self.every}"


def bound_of(bucket, ticks):
    return bucket.burst + bucket.rate * (ticks // bucket.every)


def check_other(other):
    if not isinstance(other, Bucket):
        raise BadBucket("other")


def is_at_most(one, other):
    """Whether the bound of one Bucket is at most that of the other one for each number of ticks."""
    if one.rate * other.every > other.rate * one.every:
        return False
    # The bound of one grows at the multiples of its every alone.  Behind one.every * other.every ticks
    # both begin anew, and the other one has grown by no less.
    moments = [one.every * times for times in range(other.every)]
    return all([bound_of(one, moment) <= bound_of(other, moment) for moment in moments])


def check_comings(comings):
    check_packets(comings)
    least = 0
    for at, coming in enumerate(comings):
        if not is_coming(coming, least):
            raise BadArrivals(at)
        least = coming[0]


def is_coming(value, least):
    """Whether any value is a pair of a moment that is not less than the least one and a length."""
    if not isinstance(value, tuple) or len(value) != 2:
        return False
    return is_within(value[0], least, MOST_MOMENT) and is_length(value[1])
