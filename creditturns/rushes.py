"""Rushes: a flow comes to the credit from which it sends the most in some turns, and then sends it."""

from creditturns.errors import TooMany
from creditturns.keeps import lead, packets_of, turns_to
from creditturns.plays import Arrival

MOST_BITS = 300


class Rush:
    """What a flow sends from its joining to the end of a rush.

    ahead is the tuple of the tuples of the lengths that are sent in each turn ahead of the rush;
    packets is the list of all lengths, in their order.
    """

    def __init__(self, flow, turns):
        self.name = flow.name
        self.ahead = lead(flow, credit_of_rush(flow, turns)).packets
        # A longest packet waits ahead of the rush; it does not fit into the credit.
        further = packets_of(flow.lengths.taken(flow(turns) - flow.longest))
        self.packets = [length for row in self.ahead for length in row] + [flow.longest] + further


def credit_of_rush(flow, turns):
    """The credit ahead of a rush of so many turns."""
    return flow(turns) - turns * flow.quantum


def bits_of_rush(flow, turns):
    """How many bits a flow sends from its joining to the end of a rush of so many turns."""
    # No credit is left behind a rush: each turn of the stretch has sent its quantum in the end.
    return (turns_to(flow, credit_of_rush(flow, turns)) + turns) * flow.quantum


def check_bits(bits):
    if bits > MOST_BITS:
        raise TooMany("bits", MOST_BITS)


def ticks_of_turn(link, row):
    """How many ticks a turn takes in which these lengths are sent."""
    return link.gap + sum(row)


def arrivals_of(joinings):
    """The list of the Arrivals of triples of a moment, a name, and the lengths that arrive then."""
    return [Arrival(moment, name, length) for moment, name, packets in joinings for length in packets]
