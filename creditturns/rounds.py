"""Rounds: from some turn on, what flows send grows by the same in each round."""

from math import lcm


def first_regular(flows):
    """The least number of turns from 1 on at which all of some flows are regular."""
    return max([int(flow.lengths.conductor // flow.quantum + 1) for flow in flows], default=1)


def first_regular_behind(others, flow, bits):
    """The least number of turns, from 1 on, at which the others are regular, and of which all but the last one give
    a flow at least so many bits.
    """
    return max(int(first_regular(others)), int(-(-bits // flow.quantum) + 1))


def shared_round(flows):
    """The least common multiple of the rounds of some flows."""
    turns = 1
    for flow in flows:
        turns = lcm(turns, flow.round_of)
    return turns


def mosts_between(flow, first, last):
    """The list of the most bits that a flow sends in so many turns, for each number of them from first to last."""
    quantum, longest, divisor = flow.quantum, flow.longest, flow.lengths.divisor
    regular = max(int(first), min(int(last + 1), first_regular([flow])))
    begins = floors_at(flow.lengths, list(range(first * quantum - 1, regular * quantum - 1, quantum)))
    # Where the flow is regular, its divisor alone tells the floor.
    wholes = range(regular * quantum - 1, last * quantum, quantum)
    return [longest + number for number in begins] + [longest + whole - whole % divisor for whole in wholes]


def floors_at(lengths, numbers):
    """The list of the floors of ascending numbers from 0 on."""
    floors = []
    best = 0
    ahead = -1
    for number in numbers:
        found = number
        # Without a sum above the number ahead, the floor is the one of that number.
        while found > ahead and not lengths.has(found):
            found -= 1
        if found > ahead:
            best = found
        ahead = number
        floors.append(best)
    return floors


def sums_between(lengths, first, last):
    """The ascending list of the sums of lengths from first to last."""
    whole = max(int(first), min(int(last + 1), lengths.conductor))
    begins = [number for number in range(first, whole) if lengths.has(number)]
    return begins + list(range(lengths.ceiling(whole), last + 1, lengths.divisor))
