"""A line at work: it is led from moment to moment, and writes down what it does."""


class Lane:
    """What a line knows of one flow: what waits, its credit, and how far its stretch has come."""

    def __init__(self, quantum):
        self.quantum = quantum
        self.queue = []
        self.many = 0
        self.credit = 0
        self.turns = 0
        self.bits = 0


class Visit:
    """A turn that is under way: what is done at its next moment, until, and what it has done."""

    def __init__(self, name, moment, lane, gap):
        self.name = name
        self.moment = moment
        self.until = moment + gap
        # The quantum and the credit of the beginning count, whatever comes in the meantime.
        self.quantum = lane.quantum
        self.credit = lane.credit
        self.lengths = []
        self.is_sending = False


class Run:
    """A line of a link; at its moment, what ends then has ended, and the next turn is yet to begin.

    turns and sents are lists of tuples with what the papers Turn and Sent keep, in their order.
    """

    def __init__(self, link):
        self.pause = link.gap
        self.lanes = {flow.name: Lane(flow.quantum) for flow in link}
        self.moment = 0
        self.waiters = []
        self.visit = None
        self.turns = []
        self.sents = []

    def put(self, name, length):
        """A packet arrives at this moment; its number among the packets of its flow."""
        lane = self.lanes[name]
        if not self.is_waiting(name):
            self._join(name, lane)
        number = lane.many
        lane.many += 1
        lane.queue.append((number, length, self.moment))
        return number

    def is_waiting(self, name):
        """Whether a flow is in the list or in its turn."""
        return name in self.waiters or (self.visit is not None and self.visit.name == name)

    def go_to(self, moment):
        """Let time pass up to a moment, until all that ends then has ended."""
        while self.moment < moment:
            self._begin_turn()
            if self.visit is None or self.visit.until > moment:
                self.moment = moment
            else:
                self._end_step()

    def run_out(self):
        """Let time pass until nothing waits."""
        self._begin_turn()
        while self.visit is not None:
            self._end_step()
            self._begin_turn()

    def _join(self, name, lane):
        lane.turns = 0
        lane.bits = 0
        self.waiters.append(name)

    def _begin_turn(self):
        """Begin the next turn, unless one is under way or no flow waits."""
        if self.visit is None and len(self.waiters) > 0:
            name = self.waiters.pop(0)
            lane = self.lanes[name]
            lane.turns += 1
            self.visit = Visit(name, self.moment, lane, self.pause)

    def _end_step(self):
        """End the change-over or the packet that is under way, and look at the queue."""
        visit = self.visit
        lane = self.lanes[visit.name]
        self.moment = visit.until
        if visit.is_sending:
            self._end_packet(visit, lane)
        else:
            lane.credit += visit.quantum
        if len(lane.queue) > 0 and lane.queue[0][1] <= lane.credit:
            visit.is_sending = True
            visit.until = self.moment + lane.queue[0][1]
        else:
            self._end_turn(visit, lane)

    def _end_packet(self, visit, lane):
        number, length, came = lane.queue.pop(0)
        lane.credit -= length
        lane.bits += length
        visit.lengths.append(length)
        self.sents.append((visit.name, number, length, came, self.moment, lane.turns, lane.bits))

    def _end_turn(self, visit, lane):
        """The flow goes to the end of the list with its credit, or leaves without one."""
        is_left = len(lane.queue) == 0
        if is_left:
            lane.credit = 0
        else:
            self.waiters.append(visit.name)
        self.turns.append((visit.name, visit.moment, visit.credit, tuple(visit.lengths), lane.credit, is_left))
        self.visit = None
