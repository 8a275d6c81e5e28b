"""A line at work: it is led from moment to moment, and writes down what it does."""

from creditturns.journals import Journal


class Lane:
    """What a line knows of one flow: what waits, its credit, and how far its stretch has come."""

    def __init__(self):
        self.queue = ()
        self.many = 0
        self.credit = 0
        self.turns = 0
        self.bits = 0

    def twin(self):
        other = Lane()
        other.queue = self.queue
        other.many = self.many
        other.credit = self.credit
        other.turns = self.turns
        other.bits = self.bits
        return other


class Visit:
    """A turn that is under way: what is done at its next moment, until, and what it has done."""

    def __init__(self, name, moment, until, quantum, credit):
        self.name = name
        self.moment = moment
        self.until = until
        # The quantum and the credit of the beginning count, whatever comes in the meantime.
        self.quantum = quantum
        self.credit = credit
        self.lengths = ()
        self.is_sending = False

    def twin(self):
        other = Visit(self.name, self.moment, self.until, self.quantum, self.credit)
        other.lengths = self.lengths
        other.is_sending = self.is_sending
        return other

    def picture(self):
        """All that makes two turns under way the same one."""
        return self.name, self.moment, self.until, self.quantum, self.credit, self.lengths, self.is_sending


class Run:
    """A line of a link; at its moment, what ends then has ended, and the next turn is yet to begin.

    wire is the link as it is now.  puts and sents are tuples, and turns is a Journal, of tuples
    with what the papers Arrival, Sent and Turn keep, in their order.
    """

    def __init__(self, link):
        self.wire = link
        self.lanes = {flow.name: Lane() for flow in link}
        self.moment = 0
        self.waiters = []
        self.visit = None
        self.puts = ()
        self.turns = Journal()
        self.sents = ()

    def twin(self):
        """A Run that stands as this one does, and goes its own way."""
        other = Run(self.wire)
        other.lanes = {name: lane.twin() for name, lane in self.lanes.items()}
        other.moment = self.moment
        other.waiters = list(self.waiters)
        other.visit = None if self.visit is None else self.visit.twin()
        other.puts = self.puts
        other.turns = self.turns.twin()
        other.sents = self.sents
        return other

    def picture(self):
        """All that makes two lines equal."""
        rests = {flow.name: self.lanes[flow.name].credit for flow in self.wire}
        visit = None if self.visit is None else self.visit.picture()
        return self.wire, self.moment, self.puts, self.turns.written(), self.sents, self.waiters, rests, visit

    def rewire(self, link):
        """Let the line belong to another link from now on, in which each flow that waits stays."""
        self.wire = link
        for flow in link:
            # Lanes of flows that are gone are kept: the numbers of packets go on for a name.
            self.lanes.setdefault(flow.name, Lane())

    def put(self, name, length):
        """A packet arrives at this moment; its number among the packets of its flow."""
        lane = self.lanes[name]
        if not self.is_waiting(name):
            lane.turns = 0
            lane.bits = 0
            self.waiters.append(name)
        number = lane.many
        lane.many += 1
        lane.queue = lane.queue + ((number, length, self.moment),)
        self.puts = self.puts + ((self.moment, name, length),)
        return number

    def is_waiting(self, name):
        """Whether a flow is in the list or in its turn."""
        return name in self.waiters or (self.visit is not None and self.visit.name == name)

    def is_idle(self):
        """Whether no flow waits."""
        return self.visit is None and len(self.waiters) == 0

    def go_to(self, moment):
        """Let time pass up to a moment, until all that ends then has ended."""
        while self.moment < moment:
            self._begin_turn()
            if self.visit is None or self.visit.until > moment:
                self.moment = moment
            else:
                self._end_step()

    def end_turn(self):
        """Let time pass to the end of the turn that is under way, or of the next one, if there is one."""
        self._begin_turn()
        while self.visit is not None:
            self._end_step()

    def run_out(self):
        """Let time pass until nothing waits."""
        while not self.is_idle():
            self.end_turn()

    def _begin_turn(self):
        """Begin the next turn, unless one is under way or no flow waits."""
        if self.visit is None and len(self.waiters) > 0:
            name = self.waiters.pop(0)
            lane = self.lanes[name]
            lane.turns += 1
            self.visit = Visit(name, self.moment, self.moment + self.wire.gap, self.wire[name].quantum, lane.credit)

    def _end_step(self):
        """End the change-over or the packet that is under way, and look at the queue."""
        visit = self.visit
        lane = self.lanes[visit.name]
        self.moment = visit.until
        if visit.is_sending:
            self._end_packet(visit, lane)
        else:
            lane.credit = lane.credit + visit.quantum
        if len(lane.queue) > 0 and lane.queue[0][1] <= lane.credit:
            visit.is_sending = True
            visit.until = self.moment + lane.queue[0][1]
        else:
            self._end_turn(visit, lane)

    def _end_packet(self, visit, lane):
        number, length, came = lane.queue[0]
        lane.queue = lane.queue[1:]
        lane.credit = lane.credit - length
        lane.bits = lane.bits + length
        visit.lengths = visit.lengths + (length,)
        self.sents = self.sents + ((visit.name, number, length, came, self.moment, lane.turns, lane.bits),)

    def _end_turn(self, visit, lane):
        """The flow goes to the end of the list with its credit, or leaves without one."""
        is_left = len(lane.queue) == 0
        if is_left:
            lane.credit = 0
        else:
            self.waiters.append(visit.name)
        self.turns.write((visit.name, visit.moment, visit.credit, visit.lengths, lane.credit, is_left))
        self.visit = None
