"""Flows: a name, a quantum, let lengths, and perhaps a bucket that the packets keep."""

from math import gcd

from creditturns.buckets import Bucket
from creditturns.checks import check_count, is_count, is_name, is_within
from creditturns.errors import BadBucket, BadFlow, BadName, BadNumber, BadQuantum
from creditturns.lengths import Lengths, check_lengths, is_length, take_numbers
from creditturns.words import words_of


class Flow:
    """A flow of packets that gets its quantum of bits in each of its turns."""

    MOST = 1000

    def __init__(self, name, quantum, lengths):
        check_beginning(name, quantum)
        check_lengths(lengths)
        self.name = name
        self.quantum = quantum
        self.lengths = lengths
        self._bucket = None

    @staticmethod
    def read(text):
        """The Flow or Fed with just this text."""
        return take_flow(words_of(text))

    @property
    def longest(self):
        return self.lengths.longest

    @property
    def step(self):
        return gcd(self.quantum, self.lengths.divisor)

    @property
    def round_of(self):
        return self.lengths.divisor // self.step

    def __call__(self, turns):
        """The most bits that the flow sends in so many turns one behind another."""
        check_count(turns)
        if turns == 0:
            return 0
        return self.longest + self.lengths.floor(turns * self.quantum - 1)

    def fewest(self, turns):
        """The least bits that it sends in so many turns if it waits behind each of them."""
        check_count(turns)
        return self.lengths.ceiling(turns * self.quantum - self.longest + 1)

    def turn_of(self, bits):
        """The turn of its stretch in which a packet goes that ends at this bit."""
        check_from_one(bits)
        return -(-bits // self.quantum)

    def is_regular(self, turns):
        """Whether the most bits grow by whole rounds from so many turns on."""
        check_from_one(turns)
        return turns * self.quantum - 1 >= self.lengths.conductor

    def with_quantum(self, quantum):
        """This flow with another quantum."""
        return self._like(self.name, quantum)

    def renamed(self, name):
        """This flow with another name."""
        return self._like(name, self.quantum)

    def _like(self, name, quantum):
        return Flow(name, quantum, self.lengths)

    def __eq__(self, other):
        return (isinstance(other, Flow) and self.name == other.name and self.quantum == other.quantum
                and self.lengths == other.lengths and self._bucket == other._bucket)

    def __str__(self):
        if self._bucket is None:
            return f"{self.name} {self.quantum} : {self.lengths}"
        return f"{self.name} {self.quantum} : {self.lengths} : {self._bucket}"


class Single(Flow):
    """A flow with one let length."""

    def __init__(self, name, quantum, length):
        check_beginning(name, quantum)
        check_length(length)
        Flow.__init__(self, name, quantum, Lengths(length))

    def _like(self, name, quantum):
        return Single(name, quantum, self.longest)


class Spread(Flow):
    """A flow with all lengths from a low one to a high one."""

    def __init__(self, name, quantum, low, high):
        check_beginning(name, quantum)
        check_length(low)
        check_length(high)
        if high < low:
            raise BadFlow("high")
        Flow.__init__(self, name, quantum, Lengths.between(low, high))

    def _like(self, name, quantum):
        return Spread(name, quantum, self.lengths.shortest, self.longest)


class Fed(Flow):
    """A flow whose packets keep a bucket."""

    def __init__(self, name, quantum, lengths, bucket):
        Flow.__init__(self, name, quantum, lengths)
        check_bucket(bucket, lengths)
        self._bucket = bucket

    @property
    def bucket(self):
        return self._bucket

    def _like(self, name, quantum):
        return Fed(name, quantum, self.lengths, self._bucket)


class FedSingle(Single, Fed):
    """A flow with one let length whose packets keep a bucket."""

    def __init__(self, name, quantum, length, bucket):
        Single.__init__(self, name, quantum, length)
        check_bucket(bucket, self.lengths)
        self._bucket = bucket

    def _like(self, name, quantum):
        return FedSingle(name, quantum, self.longest, self._bucket)


class FedSpread(Spread, Fed):
    """A flow with all lengths from a low one to a high one whose packets keep a bucket."""

    def __init__(self, name, quantum, low, high, bucket):
        Spread.__init__(self, name, quantum, low, high)
        check_bucket(bucket, self.lengths)
        self._bucket = bucket

    def _like(self, name, quantum):
        return FedSpread(name, quantum, self.lengths.shortest, self.longest, self._bucket)


def check_flow(value, part="flow"):
    """Refuse any value that is no Flow; part is what it should be."""
    if not isinstance(value, Flow):
        raise BadFlow(part)


def check_beginning(name, quantum):
    """Refuse what cannot begin a flow, ahead of all that is told behind it."""
    if not is_name(name):
        raise BadName(name)
    if not is_within(quantum, 1, Flow.MOST):
        raise BadQuantum(quantum)


def check_length(length):
    if not is_length(length):
        raise BadNumber(length)


def check_bucket(bucket, lengths):
    if not isinstance(bucket, Bucket):
        raise BadFlow("bucket")
    if not bucket.fits(lengths):
        raise BadBucket("burst")


def check_from_one(number):
    if not is_count(number) or number == 0:
        raise BadNumber(number)


def take_flow(words, ahead=""):
    """The flow that Words tell to their end; its name must be greater than the one ahead."""
    name = words.take_name(ahead)
    quantum = words.take_number(1, Flow.MOST)
    words.take_mark(":")
    numbers = take_numbers(words)
    lengths = Lengths.of(numbers)
    if words.is_over():
        return Flow(name, quantum, lengths)
    words.take_mark(":")
    bucket = take_fitting(words, lengths.longest)
    words.take_end()
    return Fed(name, quantum, lengths, bucket)


def take_fitting(words, longest):
    """The Bucket that the next Words tell, which must fit lengths with this longest one."""
    burst = words.take_number(longest, Bucket.MOST_BURST)
    rate = words.take_number(1, min(Bucket.MOST_RATE, int(burst - longest + 1)))
    return Bucket(burst, rate, words.take_number(1, Bucket.MOST_EVERY))
