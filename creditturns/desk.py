"""A desk: a gate that is told by lines, and answers by strings."""

from creditturns.gates import Gate
from creditturns.orders import answer_of


class Desk:
    """A Gate, at first with the gap 1 and without flows, that is told by lines."""

    def __init__(self):
        self._gate = Gate(1)

    def say(self, line):
        """Do any value that is a line; its answer."""
        return answer_of(self._gate, line)

    def __call__(self, line):
        return self.say(line)

    def run(self, *lines):
        """The list of the answers of some lines; if one of them raises an error, none of them has been done."""
        return self._gate.attempt(lambda gate: [answer_of(gate, line) for line in lines])

    def gate_now(self):
        """A twin of the gate."""
        return self._gate.twin()

    @property
    def deeds(self):
        return self._gate.deeds
