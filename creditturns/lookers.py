"""Lookers, which tell whether a paper is right, however it was come by."""

from creditturns.aparts import Apart, Widest, apart, check_pair
from creditturns.checks import is_integer, is_just
from creditturns.delays import Delay, Growing, bucket_of, delay, delay_at
from creditturns.errors import Grows
from creditturns.links import check_link
from creditturns.plays import Play
from creditturns.ratios import Ratio
from creditturns.services import service
from creditturns.waits import Latest, latest
from creditturns.worsts import Worst


class Looker:
    """Looks at papers that are told of a link."""

    def __init__(self, link):
        check_link(link)
        self._link = link

    @property
    def link(self):
        return self._link

    def latest(self, value, name, bits):
        """Whether any value is the Latest."""
        right = latest(self._link, name, bits)
        if not isinstance(value, Latest) or not is_same_table(value.mosts, right.mosts):
            return False
        return is_just(value.ticks, right.ticks) and is_just(value.turn, right.turn)

    def worst(self, value, name, bits):
        """Whether any value is a Worst, with any Play of the link."""
        ticks = latest(self._link, name, bits).ticks
        if not isinstance(value, Worst) or not self._is_play(value.play):
            return False
        # The packet must come with the first one of its stretch.
        return any([is_just(value.number, packet.number) and packet.bits == bits and packet.came == stretch[0].came
                    and packet.ended - packet.came == ticks
                    for stretch in value.play.stretches(name) for packet in stretch])

    def delay(self, value, name, bucket=None):
        """Whether any value is the Delay; none is where the delays have no bound."""
        try:
            right = delay(self._link, name, bucket)
        except Grows:
            return False
        return isinstance(value, Delay) and is_just(value.ticks, right.ticks) and is_just(value.bits, right.bits)

    def grows(self, value, name, bucket=None):
        """Whether any value is a right Growing."""
        kept = bucket_of(self._link, name, bucket)
        if not isinstance(value, Growing):
            return False
        if not all([is_integer(number) for number in (value.bits, value.further, value.ticks, value.more)]):
            return False
        if not is_begin(self._link, name, kept, value.bits) or not is_whole(self._link, name, kept, value.further):
            return False
        ticks = delay_at(self._link, name, kept, value.bits)
        more = delay_at(self._link, name, kept, value.bits + value.further) - ticks
        return more > 0 and value.ticks == ticks and value.more == more

    def apart(self, value, name, other):
        """Whether any value is the Apart of two flows."""
        right = apart(self._link[name], self._link[other])
        if not isinstance(value, Apart) or not isinstance(value.ratio, Ratio) or value.ratio != right.ratio:
            return False
        return is_just(value.number, right.number) and is_just(value.turns, right.turns)

    def widest(self, value, name, other):
        """Whether any value is a Widest of two flows, with any Play of the link."""
        check_pair(self._link, name, other)
        if not isinstance(value, Widest) or not self._is_play(value.play):
            return False
        play, begins, ends = value.play, value.begins, value.ends
        if not is_integer(begins) or not is_integer(ends):
            return False
        if not is_waiting(play, name, begins, ends) or not is_waiting(play, other, begins, ends):
            return False
        first, second = self._link[name], self._link[other]
        number = (bits_between(play, name, begins, ends) * second.quantum
                  - bits_between(play, other, begins, ends) * first.quantum)
        return number == apart(first, second).number

    def service(self, value, name, ticks):
        """Whether any value is the least bits of a flow that waits."""
        return is_just(value, service(self._link, name, ticks))

    def _is_play(self, value):
        """Whether any value is a Play of this link."""
        return isinstance(value, Play) and value.link == self._link


def is_same_table(value, right):
    """Whether any value is a dict with just the integers of the right one."""
    if not isinstance(value, dict) or len(value) != len(right):
        return False
    return all([name in value and is_just(value[name], number) for name, number in right.items()])


def is_begin(link, name, bucket, bits):
    """Whether from these bits of a flow on, an integer, all goes by whole rounds."""
    flow = link[name]
    if not flow.lengths.has(bits) or bits < flow.lengths.conductor or bits < bucket.burst:
        return False
    return all([other.is_regular(flow.turn_of(bits)) for other in link.others(name)])


def is_whole(link, name, bucket, further):
    """Whether so many bits of a flow, an integer, are whole rounds of all that counts."""
    flow = link[name]
    rounds = [flow.quantum * other.round_of for other in link.others(name)]
    parts = [bucket.rate, flow.lengths.divisor, flow.quantum, *rounds]
    return further > 0 and all([further % part == 0 for part in parts])


def is_waiting(play, name, begins, ends):
    """Whether a flow waits from one moment to another one in one stretch."""
    # It joins with its first packet, and leaves when its last one has ended.
    return any([stretch[0].came <= begins and ends <= stretch[-1].ended for stretch in play.stretches(name)])


def bits_between(play, name, begins, ends):
    """How many bits of a flow are sent from one moment to another one: the ticks in which it sends."""
    bits = 0
    for packet in play.sent:
        if packet.name == name:
            first = max(int(packet.ended - packet.length), begins)
            bits = bits + max(0, min(int(packet.ended), ends) - first)
    return bits
