"""Lines that are led on step by step, and can be taken back."""

from creditturns.checks import MOST_MOMENT, MOST_PACKETS, check_count
from creditturns.errors import BadLink, BadNumber, TooMany, Waiting
from creditturns.flows import Flow
from creditturns.links import check_link, check_name
from creditturns.plays import Arrival, Sent, Turn
from creditturns.runs import Run
from creditturns.trials import Trial, attempt_work, take_back, try_work, write_deed


class Line:
    """A line of a link; at its moment, what ends then has ended, and the next turn is yet to begin."""

    def __init__(self, link):
        check_link(link)
        # No deed changes a Run that is kept here: it works on a twin, so that an error leaves all as it was.
        self._state = Run(link)
        # The deeds that can be taken back: pairs of a word and the Run ahead of it.
        self._past = []

    @property
    def link(self):
        return self._state.wire

    @property
    def now(self):
        return self._state.moment

    @property
    def arrivals(self):
        return tuple([Arrival(*row) for row in self._state.puts])

    @property
    def log(self):
        return tuple([Turn(*row) for row in self._state.turns.written()])

    @property
    def sent(self):
        return tuple([Sent(*row) for row in self._state.sents])

    @property
    def order(self):
        return tuple(self._state.waiters)

    @property
    def busy(self):
        return None if self._state.visit is None else self._state.visit.name

    @property
    def deeds(self):
        return len(self._past)

    def put(self, name, length):
        """Let a packet arrive; its number among the packets of its flow."""
        if length not in self.link[name].lengths:
            raise BadNumber(length)
        if len(self._state.puts) >= MOST_PACKETS:
            raise TooMany("packets", MOST_PACKETS)
        state = self._state.twin()
        number = state.put(name, length)
        write_deed(self, "put", state)
        return number

    def go(self, ticks):
        """Let ticks pass; the tuple of the Sents that end in them."""
        check_count(ticks)
        check_moment(self.now + ticks)
        state = self._state.twin()
        ahead = len(state.sents)
        state.go_to(state.moment + ticks)
        write_deed(self, "go", state)
        return tuple([Sent(*row) for row in state.sents[ahead:]])

    def run(self):
        """Let ticks pass until nothing waits; how many."""
        state = self._state.twin()
        begin = state.moment
        state.run_out()
        check_moment(state.moment)
        write_deed(self, "run", state)
        return state.moment - begin

    def each_turn(self):
        """Go on to the end of a turn for each item, which is this Turn, until nothing waits."""
        while not self._state.is_idle():
            state = self._state.twin()
            state.end_turn()
            check_moment(state.moment)
            write_deed(self, "turn", state)
            row = state.turns.last()
            yield Turn(*row)

    def waiting(self, name):
        """The tuple of the lengths of the packets of a flow that have arrived and not ended."""
        check_name(self.link, name)
        return tuple([packet[1] for packet in self._state.lanes[name].queue])

    def credit_of(self, name):
        check_name(self.link, name)
        return self._state.lanes[name].credit

    def __contains__(self, name):
        return self._state.is_waiting(name)

    def __len__(self):
        return len([packet for lane in self._state.lanes.values() for packet in lane.queue])

    def __iter__(self):
        raise TypeError("a line cannot be iterated over")

    def __getitem__(self, name):
        return self.link[name]

    def __setitem__(self, name, quantum):
        self.set_quantum(name, quantum)

    def set_quantum(self, name, quantum):
        """Give a flow another quantum, which counts from its next turn on."""
        flow = self.link[name].with_quantum(quantum)
        self._rewire("quantum", self.link | flow)

    def __ior__(self, flow):
        if not isinstance(flow, Flow):
            raise BadLink("flow")
        self._check_idle(flow.name)
        self._rewire("flow", self.link | flow)
        return self

    def leave(self, name):
        """Take a flow that does not wait out of the link; the flow."""
        flow = self.link[name]
        self._check_idle(name)
        self._rewire("leave", self.link - name)
        return flow

    def undo(self):
        """Take back the last deed; its word."""
        return take_back(self)

    def trial(self):
        """A block behind which the line is as ahead of it."""
        return Trial(self)

    def tried(self, work):
        """What work returns for this line, which then is as ahead of it."""
        return try_work(self, work)

    def attempt(self, work):
        """What work returns for this line, which is as ahead of it if an error leaves it."""
        return attempt_work(self, work)

    def twin(self):
        """An equal line without deeds that goes its own way."""
        other = Line(self.link)
        other._state = self._state
        return other

    def __eq__(self, other):
        return isinstance(other, Line) and self._state.picture() == other._state.picture()

    def _rewire(self, word, link):
        state = self._state.twin()
        state.rewire(link)
        write_deed(self, word, state)

    def _check_idle(self, name):
        if name in self:
            raise Waiting(name)


def check_moment(moment):
    if moment > MOST_MOMENT:
        raise TooMany("ticks", MOST_MOMENT)
