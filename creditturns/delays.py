"""The greatest delay of packets that come by a bucket."""

from math import gcd, lcm

from creditturns.buckets import Bucket
from creditturns.errors import BadBucket, BadFlow, Grows, Round, TooMany
from creditturns.flows import Fed
from creditturns.links import check_link
from creditturns.rounds import first_regular, first_regular_behind, shared_round, sums_between
from creditturns.waits import latest_ticks, waits_between

MOST_BITS = 20000


class Delay:
    """A paper: the greatest delay, and the least sum of bits with which it is reached."""

    def __init__(self, ticks, bits):
        self.ticks = ticks
        self.bits = bits

    def __eq__(self, other):
        return isinstance(other, Delay) and self.ticks == other.ticks and self.bits == other.bits


class Growing:
    """A paper: with these bits, and further ones once and again, the delay is these ticks, and more each time."""

    def __init__(self, bits, further, ticks, more):
        self.bits = bits
        self.further = further
        self.ticks = ticks
        self.more = more

    def __eq__(self, other):
        return (isinstance(other, Growing) and self.bits == other.bits and self.further == other.further
                and self.ticks == other.ticks and self.more == other.more)


def delay(link, name, bucket=None):
    """The Delay of a flow whose packets keep a bucket, None for its own one."""
    kept = bucket_of(link, name, bucket)
    paper = growing_of(link, name, kept)
    if paper is not None:
        raise Grows() from Round(paper)
    turns = turns_to_look_at(link, name, kept)
    if turns * link[name].quantum > MOST_BITS:
        raise TooMany("bits", MOST_BITS)
    return greatest_delay(link, name, kept, turns)


def growing(link, name, bucket=None):
    """A right Growing, or None if the delays have a bound."""
    return growing_of(link, name, bucket_of(link, name, bucket))


def bucket_of(link, name, bucket):
    """The Bucket that the packets of a flow keep: the one that is told, or for None its own one."""
    check_link(link)
    flow = link[name]
    if bucket is not None and not isinstance(bucket, Bucket):
        raise BadBucket("bucket")
    if bucket is None and not isinstance(flow, Fed):
        raise BadFlow("bucket")
    kept = flow.bucket if bucket is None else bucket
    if not kept.fits(flow.lengths):
        raise BadBucket("burst")
    return kept


def growing_of(link, name, bucket):
    """The Growing from the first sum on behind which all goes by whole rounds, None if no more bits come than go."""
    flow = link[name]
    if bucket.rate * link.cycle <= bucket.every * flow.quantum:
        return None
    others = link.others(name)
    ahead = (first_regular(others) - 1) * flow.quantum
    bits = flow.lengths.ceiling(max(int(flow.lengths.conductor), int(bucket.burst), int(ahead + 1)))
    further = lcm(bucket.rate, flow.lengths.divisor, flow.quantum * shared_round(others))
    ticks = delay_at(link, name, bucket, bits)
    return Growing(bits, further, ticks, delay_at(link, name, bucket, bits + further) - ticks)


def delay_at(link, name, bucket, bits):
    """The greatest delay of a packet that ends at this bit of its stretch."""
    return latest_ticks(link, name, bits) - bucket.earliest(bits)


def turns_to_look_at(link, name, bucket):
    """A number of turns in one of which the greatest delay is reached, if there is one."""
    flow = link[name]
    others = link.others(name)
    first = first_regular_behind(others, flow, max(int(flow.lengths.conductor), int(bucket.burst)))
    common = lcm(flow.lengths.divisor, bucket.rate)
    return first + lcm(shared_round(others), common // gcd(common, flow.quantum))


def greatest_delay(link, name, bucket, turns):
    """The Delay over all sums of the first turns, where the delays have a bound."""
    flow = link[name]
    burst, rate, every, quantum = bucket.burst, bucket.rate, bucket.every, flow.quantum
    # Up to the burst the delay grows with the sum: the last one there is ahead of all below it.
    bits = flow.lengths.floor(burst)
    ticks = delay_at(link, name, bucket, bits)
    first = flow.turn_of(burst + 1)
    last = min(int(turns), last_turn_above(link, name, bucket, turns, ticks))
    waits = waits_between(link, name, first, last)
    for number in sums_between(flow.lengths, burst + 1, last * quantum):
        # The quotient is minus what Bucket.earliest tells of so many bits.
        found = number + waits[(number - 1) // quantum + 1 - first] + (burst - number) // rate * every
        if found > ticks:
            ticks, bits = found, number
    return Delay(ticks, bits)


def last_turn_above(link, name, bucket, turns, ticks):
    """A turn, turns if none is known, behind which no delay of more bits than the burst is above so many ticks.

    W(p) of a flow is at most pQ + L - 1, and what comes by the bucket is at most its rate; so rate times a delay
    in the turn p is at most a number that falls by the same with each turn.
    """
    quantum = link[name].quantum
    fall = bucket.every * quantum - bucket.rate * link.cycle
    if fall == 0:
        return turns
    slack = sum([other.longest - 1 for other in link.others(name)])
    begin = bucket.every * bucket.burst + (bucket.every - bucket.rate) * (quantum - 1) + bucket.rate * slack
    return (begin - bucket.rate * ticks - 1) // fall
