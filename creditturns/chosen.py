"""Quanta that are chosen, so that packets are gone in time."""

from creditturns.checks import check_count
from creditturns.errors import BadPromise, NoQuantum, TooMany
from creditturns.flows import Flow
from creditturns.gates import Promise, check_promised, first_broken, ticks_of
from creditturns.lengths import check_lengths
from creditturns.links import Link, check_link
from creditturns.waits import check_packets_end, check_place, ticks_of_others


class Chosen:
    """A paper: the least quantum that will do, how late a packet is with it, and how late with one less."""

    def __init__(self, quantum, ticks, before):
        self.quantum = quantum
        self.ticks = ticks
        self.before = before

    def __eq__(self, other):
        return (isinstance(other, Chosen) and self.quantum == other.quantum and self.ticks == other.ticks
                and self.before == other.before)


class Roomy:
    """A paper: the greatest quantum that will do, the promise that one more breaks, and how late its packet is then."""

    def __init__(self, quantum, promise, ticks):
        self.quantum = quantum
        self.promise = promise
        self.ticks = ticks

    def __eq__(self, other):
        return (isinstance(other, Roomy) and self.quantum == other.quantum and self.promise == other.promise
                and self.ticks == other.ticks)


def least_quantum(link, name, bits, ticks):
    """The Chosen for a packet of a flow that ends at this bit of its stretch and may take so many ticks."""
    check_place(link, name, bits)
    check_count(ticks)
    check_packets_end(link[name], bits)
    if ticks_with(link, name, bits, Flow.MOST) > ticks:
        raise NoQuantum()
    # With a greater quantum no packet is later: the least one is found by halves.
    low, high = 1, Flow.MOST
    while low < high:
        middle = (low + high) // 2
        if ticks_with(link, name, bits, middle) > ticks:
            low = middle + 1
        else:
            high = middle
    before = None if low == 1 else ticks_with(link, name, bits, low - 1)
    return Chosen(low, ticks_with(link, name, bits, low), before)


def ticks_with(link, name, bits, quantum):
    """The latest ticks of a packet of a flow if the flow has this quantum."""
    return bits + ticks_of_others(link, name, -(-bits // quantum))


def greatest_quantum(link, lengths, promises):
    """The Roomy for a further flow of these lengths, with which all promises are kept."""
    check_link(link)
    check_lengths(lengths)
    check_promises(promises)
    check_promised(link, promises)
    if len(link) >= Link.MOST_FLOWS:
        raise TooMany("flows", Link.MOST_FLOWS)
    if first_broken(with_further(link, lengths, 1), promises) is not None:
        raise NoQuantum()
    # With a greater quantum of the further flow no packet is earlier.
    low, high = 1, Flow.MOST
    while low < high:
        middle = (low + high + 1) // 2
        if first_broken(with_further(link, lengths, middle), promises) is None:
            low = middle
        else:
            high = middle - 1
    if low == Flow.MOST:
        return Roomy(low, None, None)
    beyond = with_further(link, lengths, low + 1)
    promise = first_broken(beyond, promises)
    return Roomy(low, promise, ticks_of(beyond, promise))


def with_further(link, lengths, quantum):
    """A link with a further flow, whose name plays no part."""
    names = [name for name in "abcdefg" if name not in link]
    return link | Flow(names[0], quantum, lengths)


def check_promises(promises):
    """Refuse what is no list or tuple of Promises."""
    if not isinstance(promises, (list, tuple)):
        raise BadPromise(None)
    for at, promise in enumerate(promises):
        if not isinstance(promise, Promise):
            raise BadPromise(at)
