"""Which credits a flow can keep, and how it comes to them."""

from creditturns.checks import is_count
from creditturns.errors import NoCredit
from creditturns.flows import check_flow


class Lead:
    """A paper: turns of a stretch, from joining on, and the lengths that are sent in each of them."""

    def __init__(self, turns, packets):
        self.turns = turns
        self.packets = packets

    def __eq__(self, other):
        return isinstance(other, Lead) and self.turns == other.turns and self.packets == other.packets


def keeps(flow):
    """The ascending tuple of the credits that a flow can keep at the end of a turn."""
    check_flow(flow)
    return tuple(range(0, flow.longest, flow.step))


def lead(flow, credit):
    """The Lead with the fewest turns behind which the flow can have this credit."""
    check_credit(flow, credit)
    turns = turns_to(flow, credit)
    parts = flow.lengths.taken(turns * flow.quantum - credit)
    return Lead(turns, placed(flow, turns, packets_of(parts)))


def shows_lead(flow, credit, value):
    """Whether any value is a Lead by which the flow comes to this credit."""
    check_credit(flow, credit)
    if not isinstance(value, Lead) or not is_count(value.turns) or not is_rows(flow, value.packets):
        return False
    packets = [length for row in value.packets for length in row]
    if sum(packets) != value.turns * flow.quantum - credit:
        return False
    return value.packets == placed(flow, value.turns, packets)


def check_credit(flow, credit):
    """Refuse what is no credit that the flow can keep."""
    check_flow(flow)
    if not is_count(credit) or credit >= flow.longest or credit % flow.step != 0:
        raise NoCredit(credit)


def turns_to(flow, credit):
    """The fewest turns from joining behind which the flow can have a credit that it can keep."""
    if credit == 0:
        return 0
    turns = 1
    while not flow.lengths.has(turns * flow.quantum - credit):
        turns += 1
    return turns


def packets_of(parts):
    """The list of the lengths that a dict tells with how many times each is taken."""
    return [length for length, many in parts.items() for _ in range(many)]


def placed(flow, turns, packets):
    """The tuple of the tuples of the lengths that are sent in each turn of a stretch with these packets."""
    rows = [[] for _ in range(turns)]
    bits = 0
    for length in packets:
        bits = bits + length
        rows[flow.turn_of(bits) - 1].append(length)
    return tuple([tuple(row) for row in rows])


def is_rows(flow, value):
    """Whether any value is a tuple of tuples of lengths of the flow."""
    if not isinstance(value, tuple) or not all([isinstance(row, tuple) for row in value]):
        return False
    return all([length in flow.lengths for row in value for length in row])
