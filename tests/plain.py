"""A line that goes on by single ticks, in the order of one moment that the document tells."""


class PlainLine:
    """At its moment, (1) is over and (3) is yet to come; flows may change between ticks."""

    def __init__(self, link):
        self.gap = link.gap
        self.flows = {flow.name: flow for flow in link}
        self.queues = {flow.name: [] for flow in link}
        self.credits = {flow.name: 0 for flow in link}
        self.numbers = {flow.name: 0 for flow in link}
        self.places = {}
        self.now, self.order, self.turn = 0, [], None
        self.arrivals, self.log, self.sent = [], [], []

    def busy(self):
        return self.turn and self.turn["name"]

    def waits(self, name):
        return name in self.order or self.busy() == name

    def put(self, name, length):
        if not self.waits(name):
            self.order.append(name)
            self.places[name] = [0, 0]
        number = self.numbers[name]
        self.queues[name].append((number, length, self.now))
        self.arrivals.append((self.now, name, length))
        self.numbers[name] += 1
        return number

    def set_flow(self, flow):
        self.flows[flow.name] = flow
        self.queues.setdefault(flow.name, [])
        self.credits.setdefault(flow.name, 0)
        self.numbers.setdefault(flow.name, 0)

    def leave(self, name):
        return self.flows.pop(name)

    def tick(self):
        if self.turn is None and self.order:
            self.begin(self.order.pop(0))
        self.now += 1
        if self.turn is not None:
            self.turn["left"] -= 1
            if self.turn["left"] == 0:
                self.end(self.turn["name"])

    def begin(self, name):
        self.places[name][0] += 1
        self.turn = {"name": name, "moment": self.now, "credit": self.credits[name], "lengths": [],
                     "left": self.gap, "sending": False, "quantum": self.flows[name].quantum}

    def end(self, name):
        queue = self.queues[name]
        if self.turn["sending"]:
            number, length, came = queue.pop(0)
            self.credits[name] -= length
            self.places[name][1] += length
            self.turn["lengths"].append(length)
            self.sent.append((name, number, length, came, self.now, *self.places[name]))
        else:
            self.credits[name] += self.turn["quantum"]
        if queue and queue[0][1] <= self.credits[name]:
            self.turn["sending"], self.turn["left"] = True, queue[0][1]
        else:
            self.close(name, queue)

    def close(self, name, queue):
        if queue:
            self.order.append(name)
        else:
            self.credits[name] = 0
        self.log.append((name, self.turn["moment"], self.turn["credit"], tuple(self.turn["lengths"]),
                         self.credits[name], not queue))
        self.turn = None


def play_out(link, arrivals):
    """A PlainLine behind these arrivals, at the end of its last turn."""
    line = PlainLine(link)
    for one in arrivals:
        while line.now < one.moment:
            line.tick()
        line.put(one.name, one.length)
    while line.turn or line.order:
        line.tick()
    return line


def log_of(turns):
    return [(turn.name, turn.moment, turn.credit, turn.lengths, turn.rest, turn.is_left) for turn in turns]


def sent_of(sents):
    return [(one.name, one.number, one.length, one.came, one.ended, one.turn, one.bits) for one in sents]


def turn_ends(flow, credit, head):
    """All that can come of a turn: the bits that are sent, the credit, and the head, None if the flow leaves."""
    seen, left = set(), [(credit + flow.quantum, head)]
    while left:
        row = left.pop()
        if row in seen:
            continue
        seen.add(row)
        if row[1] is not None and row[1] <= row[0]:
            left += [(row[0] - row[1], further) for further in (*flow.lengths, None)]
    whole = credit + flow.quantum
    return {(whole - rest, 0 if head is None else rest, head) for rest, head in seen if head is None or head > rest}


def walk(flow):
    """For each credit that can be had at the end of a turn behind which the flow waits, the fewest turns, from 1 on."""
    fewest, level, seen, turns = {}, {(0, head) for head in flow.lengths}, set(), 0
    while level:
        turns += 1
        level = {(rest, head) for state in level for _, rest, head in turn_ends(flow, *state) if head} - seen
        seen |= level
        for rest, _ in level:
            fewest.setdefault(rest, turns)
    return fewest


def most_and_least(flow, turns):
    """The most bits in some turns, and the least if the flow waits behind each, from all credits that can be kept."""
    states = {(rest, head) for rest in walk(flow) for head in flow.lengths if head > rest}
    least = dict.fromkeys(states, 0)
    most = dict.fromkeys(states, 0)
    for _ in range(turns):
        further, fewer = {}, {}
        for state in most:
            for bits, rest, head in turn_ends(flow, *state):
                for place in [(rest, head)] if head else [(0, other) for other in flow.lengths]:
                    further[place] = max(further.get(place, 0), most[state] + bits)
        for state in least:
            for bits, rest, head in turn_ends(flow, *state):
                if head:
                    fewer[rest, head] = min(fewer.get((rest, head), 10 ** 9), least[state] + bits)
        most, least = further, fewer
    return max(most.values()), min(least.values())
