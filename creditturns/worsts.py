"""Plays in which a packet is as late as it can be."""

from creditturns.keeps import packets_of
from creditturns.plays import Play
from creditturns.rushes import Rush, arrivals_of, bits_of_rush, check_bits, ticks_of_turn
from creditturns.waits import check_sum


class Worst:
    """A paper: a Play, and the number of the packet of its flow that is late in it."""

    def __init__(self, play, number):
        self.play = play
        self.number = number

    def __eq__(self, other):
        return isinstance(other, Worst) and self.play == other.play and self.number == other.number


def worst(link, name, bits):
    """A Worst for a packet of a flow that ends at this bit of its stretch."""
    check_sum(link, name, bits)
    flow = link[name]
    turns = flow.turn_of(bits)
    check_bits(bits + sum([bits_of_rush(other, turns) for other in link.others(name)]))
    rushes = [Rush(other, turns) for other in link.others(name)]
    packets = packets_of(flow.lengths.taken(bits))
    arrivals = arrivals_of(joinings_of(link, rushes, name, packets))
    return Worst(Play(link, arrivals), len(packets) - 1)


def joinings_of(link, rushes, name, packets):
    """The joinings of the flows that rush, and of a flow that joins when all of them are about to.

    They wait in the list then, each with the credit for its rush, and this flow stands behind them.
    """
    joinings = []
    moment = 0
    for left in range(max([len(one.ahead) for one in rushes], default=0), 0, -1):
        joinings = joinings + joined_at(moment, rushes, left)
        # In a round each flow that has joined has one turn.
        rows = [one.ahead[-left] for one in rushes if len(one.ahead) >= left]
        moment = moment + sum([ticks_of_turn(link, row) for row in rows])
    return [*joinings, *joined_at(moment, rushes, 0), (moment, name, packets)]


def joined_at(moment, rushes, left):
    """The joinings at a moment of the flows that have so many turns left ahead of their rush."""
    return [(moment, one.name, one.packets) for one in rushes if len(one.ahead) == left]
