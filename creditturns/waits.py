"""How late a packet can be."""

from creditturns.checks import check_count
from creditturns.errors import NoSum
from creditturns.links import check_link, check_name
from creditturns.rounds import mosts_between


class Latest:
    """A paper: the ticks behind which a packet is gone, its turn, and the most that the others send until then."""

    def __init__(self, ticks, turn, mosts):
        self.ticks = ticks
        self.turn = turn
        self.mosts = mosts

    def __eq__(self, other):
        return (isinstance(other, Latest) and self.ticks == other.ticks and self.turn == other.turn
                and self.mosts == other.mosts)


def latest(link, name, bits):
    """The Latest of a packet of a flow that ends at this bit of its stretch."""
    check_sum(link, name, bits)
    turn = link[name].turn_of(bits)
    mosts = {other.name: other(turn) for other in link.others(name)}
    return Latest(bits + ticks_of_others(link, name, turn), turn, mosts)


def check_sum(link, name, bits):
    """Refuse what is no sum from 1 on of lengths of a flow of the link."""
    check_place(link, name, bits)
    check_packets_end(link[name], bits)


def check_packets_end(flow, bits):
    """Refuse bits, a number, at which no packet of a stretch of the flow can end."""
    if bits == 0 or not flow.lengths.has(bits):
        raise NoSum(bits)


def check_place(link, name, number):
    """Refuse what is no link, no name of a flow of it, and no integer from 0 on."""
    check_link(link)
    check_name(link, name)
    check_count(number)


def ticks_of_others(link, name, turns):
    """The most ticks up to the end of so many turns of a flow in which it does not send, from its joining on."""
    return turns * len(link) * link.gap + sum([other(turns) for other in link.others(name)])


def waits_between(link, name, first, last):
    """The list of the ticks_of_others of a flow for each number of turns from first, from 1 on, to last."""
    changes = len(link) * link.gap
    rows = [list(range(first * changes, last * changes + 1, changes))]
    for other in link.others(name):
        rows.append(mosts_between(other, first, last))
    return [sum(row) for row in zip(*rows)]


def latest_ticks(link, name, bits):
    """The ticks of the Latest of a packet, without its other parts."""
    return bits + ticks_of_others(link, name, link[name].turn_of(bits))
