"""Links: a gap, and the flows that share a line."""

from creditturns.checks import is_within
from creditturns.errors import BadGap, BadLink, Known, NoFlow, TooMany
from creditturns.flows import Flow, take_flow
from creditturns.ratios import Ratio
from creditturns.words import parts_of


class Link:
    """A gap and at most 6 flows with unlike names."""

    MOST_GAP = 1000000
    MOST_FLOWS = 6

    def __init__(self, gap, *flows):
        if not is_within(gap, 1, Link.MOST_GAP):
            raise BadGap(gap)
        if not all([isinstance(flow, Flow) for flow in flows]):
            raise BadLink("flow")
        table = {}
        for flow in flows:
            if flow.name in table:
                raise Known(flow.name)
            table[flow.name] = flow
        if len(flows) > Link.MOST_FLOWS:
            raise TooMany("flows", Link.MOST_FLOWS)
        self._gap = gap
        self._table = table
        self._names = tuple(sorted([str(name) for name in table]))
        self._flows = tuple([table[name] for name in self._names])

    @classmethod
    def read(cls, text):
        """The Link with just this text."""
        gap, flows = take_parts(parts_of(text))
        return cls(gap, *flows)

    @property
    def gap(self):
        return self._gap

    @property
    def names(self):
        return self._names

    @property
    def cycle(self):
        return sum([flow.quantum for flow in self._flows]) + self._gap * len(self._flows)

    def __iter__(self):
        return iter(self._flows)

    def __len__(self):
        return len(self._flows)

    def __contains__(self, name):
        return isinstance(name, str) and name in self._table

    def __getitem__(self, name):
        check_name(self, name)
        return self._table[name]

    def others(self, name):
        """The tuple of the flows but this one."""
        check_name(self, name)
        return tuple([flow for flow in self._flows if flow.name != name])

    def share(self, name):
        """The Ratio of the quantum of a flow to the cycle."""
        return Ratio(self[name].quantum, self.cycle)

    def with_gap(self, gap):
        """This link with another gap."""
        return Link(gap, *self._flows)

    def __or__(self, flow):
        if not isinstance(flow, Flow):
            raise BadLink("flow")
        kept = [one for one in self._flows if one.name != flow.name]
        return Link(self._gap, *kept, flow)

    def __sub__(self, name):
        kept = self.others(name)
        return Link(self._gap, *kept)

    def __le__(self, other):
        check_other(other)
        return is_part(self, other)

    def __lt__(self, other):
        check_other(other)
        return is_part(self, other) and len(self) < len(other)

    def __ge__(self, other):
        check_other(other)
        return is_part(other, self)

    def __gt__(self, other):
        check_other(other)
        return is_part(other, self) and len(other) < len(self)

    def __eq__(self, other):
        return isinstance(other, Link) and self._gap == other._gap and self._flows == other._flows

    def __str__(self):
        return "; ".join([f"gap {self._gap}", *[str(flow) for flow in self._flows]])


def take_gap(words, mark):
    """The gap that Words tell behind a mark, to their end."""
    words.take_mark(mark)
    gap = words.take_number(1, Link.MOST_GAP)
    words.take_end()
    return gap


def take_parts(parts):
    """The gap and the list of the flows of a link that a list of Words tells."""
    gap = take_gap(parts[0], "gap")
    flows = []
    ahead = ""
    for words in parts[1:]:
        if len(flows) == Link.MOST_FLOWS:
            words.refuse()
        flow = take_flow(words, ahead)
        flows.append(flow)
        ahead = flow.name
    return gap, flows


def check_link(link):
    if not isinstance(link, Link):
        raise BadLink("link")


def check_name(link, name):
    """Refuse what is no name of a flow of the link."""
    if name not in link:
        raise NoFlow(name)


def check_other(other):
    if not isinstance(other, Link):
        raise BadLink("other")


def is_part(one, other):
    """Whether one Link has the gap of the other one, and its flows are flows of it."""
    if one.gap != other.gap:
        return False
    return all([flow.name in other and other[flow.name] == flow for flow in one])
