"""Links and flows that are compared: where packets can be later, and what harms the others."""

from creditturns.errors import BadFlow, TooMany
from creditturns.flows import check_flow
from creditturns.links import check_link, check_other
from creditturns.rounds import first_regular, first_regular_behind, mosts_between, shared_round
from creditturns.waits import waits_between

MOST_TURNS = 5000


class Later:
    """A paper: the least bits with which a packet can be later, how late it can be, and how late in the other link."""

    def __init__(self, bits, ticks, less):
        self.bits = bits
        self.ticks = ticks
        self.less = less

    def __eq__(self, other):
        return (isinstance(other, Later) and self.bits == other.bits and self.ticks == other.ticks
                and self.less == other.less)


class Harm:
    """A paper: the least turns in which a flow can send more, how many bits, and how many the other one."""

    def __init__(self, turns, bits, less):
        self.turns = turns
        self.bits = bits
        self.less = less

    def __eq__(self, other):
        return (isinstance(other, Harm) and self.turns == other.turns and self.bits == other.bits
                and self.less == other.less)


def later(link, other, name):
    """The Later of the first packet of a flow that can be later in a link than in the other one, None without one."""
    check_both(link, other, name)
    flow = link[name]
    turns = turns_to_compare(link, other, name)
    waits = waits_between(link, name, 1, turns)
    for ahead, (ticks, less) in enumerate(zip(waits, waits_between(other, name, 1, turns))):
        if ticks > less:
            bits = flow.lengths.ceiling(ahead * flow.quantum + 1)
            # In some turns no packet ends.
            if bits <= (ahead + 1) * flow.quantum:
                return Later(bits, bits + ticks, bits + less)
    return None


def alike(link, other, name):
    """Whether no packet of a flow can be later in one of both links than in the other one."""
    return later(link, other, name) is None and later(other, link, name) is None


def harms(one, other):
    """The Harm of the first turns in which one flow can send more than the other one, None if it never can."""
    check_flow(one, "one")
    check_flow(other, "other")
    turns = turns_to_harm(one, other)
    mosts = mosts_between(one, 1, turns)
    for ahead, (bits, less) in enumerate(zip(mosts, mosts_between(other, 1, turns))):
        if bits > less:
            return Harm(ahead + 1, bits, less)
    return None


def check_both(link, other, name):
    """Refuse what are no links, or have no equal flow of this name."""
    check_link(link)
    check_other(other)
    # A name that one of them lacks is refused by its items.
    if link[name] != other[name]:
        raise BadFlow("unlike")


def turns_to_compare(link, other, name):
    """A number of turns in one of which a packet is later, if one ever is."""
    flow = link[name]
    others = [*link.others(name), *other.others(name)]
    if link.cycle != other.cycle:
        # W(p) is from pQ to pQ + L - 1: behind these turns the cycles alone tell in which link packets are later,
        # and some packet ends in as many turns as the shortest length has bits.
        return sum([one.longest - 1 for one in others]) + flow.lengths.shortest
    turns = first_regular_behind(others, flow, flow.lengths.conductor) + shared_round([flow, *others])
    if turns > MOST_TURNS:
        raise TooMany("turns", MOST_TURNS)
    return turns


def turns_to_harm(one, other):
    """A number of turns by which one flow can have sent more than the other one, if it ever can."""
    if one.quantum != other.quantum:
        # Behind these turns the quanta alone tell which one sends more.
        return max(int(one.longest), int(other.longest))
    return first_regular([one, other]) + shared_round([one, other])
