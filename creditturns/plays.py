"""Plays: what a line does with some arrivals, from moment 0 until nothing waits."""

from creditturns.checks import MOST_MOMENT, check_packets, is_within
from creditturns.errors import BadArrivals, BadNumber
from creditturns.links import check_link, check_name
from creditturns.runs import Run


class Arrival:
    """A paper: a packet of a flow that arrives."""

    def __init__(self, moment, name, length):
        self.moment = moment
        self.name = name
        self.length = length

    def __eq__(self, other):
        return (isinstance(other, Arrival) and self.moment == other.moment and self.name == other.name
                and self.length == other.length)


class Turn:
    """A paper: what a flow did in a turn that has ended."""

    def __init__(self, name, moment, credit, lengths, rest, is_left):
        self.name = name
        self.moment = moment
        self.credit = credit
        self.lengths = lengths
        self.rest = rest
        self.is_left = is_left

    def __eq__(self, other):
        return (isinstance(other, Turn) and self.name == other.name and self.moment == other.moment
                and self.credit == other.credit and self.lengths == other.lengths
                and self.rest == other.rest and self.is_left == other.is_left)


class Sent:
    """A paper: a packet that has been sent."""

    def __init__(self, name, number, length, came, ended, turn, bits):
        self.name = name
        self.number = number
        self.length = length
        self.came = came
        self.ended = ended
        self.turn = turn
        self.bits = bits

    def __eq__(self, other):
        return (isinstance(other, Sent) and self.name == other.name and self.number == other.number
                and self.length == other.length and self.came == other.came
                and self.ended == other.ended and self.turn == other.turn and self.bits == other.bits)


class Play:
    """What a line of a link does with a list or tuple of Arrivals."""

    def __init__(self, link, arrivals):
        check_link(link)
        check_arrivals(link, arrivals)
        run = run_of(link, arrivals)
        self._link = link
        self._arrivals = tuple(arrivals)
        self._log = tuple([Turn(*row) for row in run.turns.written()])
        self._sent = tuple([Sent(*row) for row in run.sents])
        self._finish = run.moment

    @property
    def link(self):
        return self._link

    @property
    def arrivals(self):
        return self._arrivals

    @property
    def log(self):
        return self._log

    @property
    def sent(self):
        return self._sent

    @property
    def finish(self):
        return self._finish

    def __iter__(self):
        return iter(self._log)

    def __len__(self):
        return len(self._log)

    def __getitem__(self, at):
        return self._log[at]

    def __eq__(self, other):
        return isinstance(other, Play) and self._link == other._link and self._arrivals == other._arrivals

    def ended_at(self, name, number):
        """The moment at which a packet has ended."""
        return self._packet(name, number).ended

    def delay(self, name, number):
        """The number of ticks from the arrival of a packet to its end."""
        packet = self._packet(name, number)
        return packet.ended - packet.came

    def comings(self, name):
        """The tuple of the pairs of a moment and a length of the arrivals of a flow."""
        check_name(self._link, name)
        return tuple([(one.moment, one.length) for one in self._arrivals if one.name == name])

    def stretches(self, name):
        """The tuple of the stretches of a flow, each the tuple of its Sents."""
        stretches = []
        for packet in self._packets(name):
            # The first packet of a stretch, and no other one, ends at the bit of its own length.
            if packet.bits == packet.length:
                stretches.append([])
            stretches[-1].append(packet)
        return tuple([tuple(stretch) for stretch in stretches])

    def _packets(self, name):
        """The Sents of a flow, whose packets end in the order of their numbers."""
        check_name(self._link, name)
        return [packet for packet in self._sent if packet.name == name]

    def _packet(self, name, number):
        packets = self._packets(name)
        if not is_within(number, 0, len(packets) - 1):
            raise BadNumber(number)
        return packets[number]


def check_arrivals(link, arrivals):
    check_packets(arrivals)
    least = 0
    for at, arrival in enumerate(arrivals):
        if not is_arrival(link, arrival, least):
            raise BadArrivals(at)
        least = arrival.moment


def is_arrival(link, value, least):
    """Whether any value is an Arrival at the least moment or later that this link lets come."""
    if not isinstance(value, Arrival) or not is_within(value.moment, least, MOST_MOMENT):
        return False
    return value.name in link and value.length in link[value.name].lengths


def run_of(link, arrivals):
    """The Run of a line with these arrivals, when nothing waits any more."""
    run = Run(link)
    for arrival in arrivals:
        run.go_to(arrival.moment)
        run.put(arrival.name, arrival.length)
    run.run_out()
    return run
