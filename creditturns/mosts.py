"""The most and the least that a flow sends in some turns, and the sums that show it."""

from creditturns.checks import check_count, is_integer
from creditturns.flows import check_flow
from creditturns.leasts import bits_of, is_parts


class Most:
    """A paper: the most bits, the credit at the beginning, and how many times each length is sent."""

    def __init__(self, bits, credit, parts):
        self.bits = bits
        self.credit = credit
        self.parts = parts

    def __eq__(self, other):
        return (isinstance(other, Most) and self.bits == other.bits and self.credit == other.credit
                and self.parts == other.parts)


class Least:
    """A paper: the least bits, the credit at the end, and how many times each length is sent."""

    def __init__(self, bits, credit, parts):
        self.bits = bits
        self.credit = credit
        self.parts = parts

    def __eq__(self, other):
        return (isinstance(other, Least) and self.bits == other.bits and self.credit == other.credit
                and self.parts == other.parts)


def most(flow, turns):
    """The Most of a flow in so many turns."""
    check_turns(flow, turns)
    if turns == 0:
        return Most(0, 0, {})
    bits = flow(turns)
    # The packet that waits at the beginning is a longest one; what is sent behind it is any sum.
    parts = flow.lengths.taken(bits - flow.longest)
    parts[flow.longest] = parts.get(flow.longest, 0) + 1
    return Most(bits, bits - turns * flow.quantum, parts)


def least(flow, turns):
    """The Least of a flow in so many turns behind each of which it waits."""
    check_turns(flow, turns)
    bits = flow.fewest(turns)
    return Least(bits, turns * flow.quantum - bits, flow.lengths.taken(bits))


def shows_most(flow, turns, value):
    """Whether any value is a right Most."""
    check_turns(flow, turns)
    if not isinstance(value, Most):
        return False
    bits = flow(turns)
    if not is_shown(flow, value, bits, bits - turns * flow.quantum):
        return False
    return turns == 0 or flow.longest in value.parts


def shows_least(flow, turns, value):
    """Whether any value is a right Least."""
    check_turns(flow, turns)
    if not isinstance(value, Least):
        return False
    bits = flow.fewest(turns)
    return is_shown(flow, value, bits, turns * flow.quantum - bits)


def check_turns(flow, turns):
    check_flow(flow)
    check_count(turns)


def is_shown(flow, value, bits, credit):
    """Whether a paper tells these bits, this credit, and parts that make these bits."""
    if not is_integer(value.bits) or not is_integer(value.credit) or not is_parts(flow.lengths, value.parts):
        return False
    return value.bits == bits and value.credit == credit and bits_of(value.parts) == bits
