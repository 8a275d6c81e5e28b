"""The greatest delay of packets that come by a bucket."""

from math import gcd, lcm

from creditturns.buckets import Bucket
from creditturns.errors import BadBucket, BadFlow, Grows, Round, TooMany
from creditturns.flows import Fed
from creditturns.links import check_link
from creditturns.rounds import first_regular, shared_round
from creditturns.waits import ticks_of_others

MOST_BITS = 20000


class Delay:
    """A paper: the greatest delay, and the least sum of bits with which it is reached."""

    def __init__(self, ticks, bits):
        self.ticks = ticks
        self.bits = bits

    def __eq__(self, other):
        return isinstance(other, Delay) and self.ticks == other.ticks and self.bits == other.bits


class Growing:
    """A paper: with these bits, and further ones once and again, the delay is these ticks, and more each time."""

    def __init__(self, bits, further, ticks, more):
        self.bits = bits
        self.further = further
        self.ticks = ticks
        self.more = more

    def __eq__(self, other):
        return (isinstance(other, Growing) and self.bits == other.bits and self.further == other.further
                and self.ticks == other.ticks and self.more == other.more)


def delay(link, name, bucket=None):
    """The Delay of a flow whose packets keep a bucket, None for its own one."""
    kept = bucket_of(link, name, bucket)
    paper = growing_of(link, name, kept)
    if paper is not None:
        raise Grows() from Round(paper)
    turns = turns_to_look_at(link, name, kept)
    if turns * link[name].quantum > MOST_BITS:
        raise TooMany("bits", MOST_BITS)
    return greatest_delay(link, name, kept, turns)


def growing(link, name, bucket=None):
    """A right Growing, or None if the delays have a bound."""
    return growing_of(link, name, bucket_of(link, name, bucket))


def bucket_of(link, name, bucket):
    """The Bucket that the packets of a flow keep: the one that is told, or for None its own one."""
    check_link(link)
    flow = link[name]
    if bucket is not None and not isinstance(bucket, Bucket):
        raise BadBucket("bucket")
    if bucket is None and not isinstance(flow, Fed):
        raise BadFlow("bucket")
    kept = flow.bucket if bucket is None else bucket
    if not kept.fits(flow.lengths):
        raise BadBucket("burst")
    return kept


def growing_of(link, name, bucket):
    """The Growing from the first sum on behind which all goes by whole rounds, None if no more bits come than go."""
    flow = link[name]
    if bucket.rate * link.cycle <= bucket.every * flow.quantum:
        return None
    others = link.others(name)
    ahead = (first_regular(others) - 1) * flow.quantum
    bits = flow.lengths.ceiling(max(int(flow.lengths.conductor), int(bucket.burst), int(ahead + 1)))
    further = lcm(bucket.rate, flow.lengths.divisor, flow.quantum * shared_round(others))
    ticks = delay_at(link, name, bucket, bits)
    return Growing(bits, further, ticks, delay_at(link, name, bucket, bits + further) - ticks)


def delay_at(link, name, bucket, bits):
    """The greatest delay of a packet that ends at this bit of its stretch."""
    return bits + ticks_of_others(link, name, link[name].turn_of(bits)) - bucket.earliest(bits)


def turns_to_look_at(link, name, bucket):
    """A number of turns in one of which the greatest delay is reached, if there is one."""
    flow = link[name]
    others = link.others(name)
    ahead = max(int(flow.lengths.conductor), int(bucket.burst))
    first = max(int(first_regular(others)), int(-(-ahead // flow.quantum) + 1))
    common = lcm(flow.lengths.divisor, bucket.rate)
    return first + lcm(shared_round(others), common // gcd(common, flow.quantum))


def greatest_delay(link, name, bucket, turns):
    """The Delay over all sums of the first turns."""
    flow = link[name]
    best = None
    for turn in range(1, turns + 1):
        waits = ticks_of_others(link, name, turn)
        for bits in range((turn - 1) * flow.quantum + 1, turn * flow.quantum + 1):
            ticks = bits + waits - bucket.earliest(bits)
            if flow.lengths.has(bits) and (best is None or ticks > best.ticks):
                best = Delay(ticks, bits)
    return best
