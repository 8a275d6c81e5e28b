"""Gates: links that let flows in, and keep promises."""

from creditturns.checks import is_name, is_within
from creditturns.errors import BadPromise, Broken, Known, Late
from creditturns.flows import check_flow
from creditturns.links import Link, check_name
from creditturns.trials import Trial, attempt_work, take_back, try_work, write_deed
from creditturns.waits import check_packets_end, latest_ticks
from creditturns.words import words_of

MOST_NUMBER = 10 ** 60


class Promise:
    """That a packet that ends at this bit of a stretch of a flow is gone at most so many ticks behind its beginning."""

    def __init__(self, name, bits, ticks):
        if not is_name(name):
            raise BadPromise("name")
        if not is_within(bits, 1, MOST_NUMBER):
            raise BadPromise("bits")
        if not is_within(ticks, 0, MOST_NUMBER):
            raise BadPromise("ticks")
        self.name = name
        self.bits = bits
        self.ticks = ticks

    @classmethod
    def read(cls, text):
        """The Promise with just this text."""
        words = words_of(text)
        name = words.take_name("")
        bits = words.take_number(1, MOST_NUMBER)
        ticks = words.take_number(0, MOST_NUMBER)
        words.take_end()
        return cls(name, bits, ticks)

    def __le__(self, other):
        check_promise(other)
        return self.name == other.name and self.bits == other.bits and self.ticks <= other.ticks

    def __eq__(self, other):
        return (isinstance(other, Promise) and self.name == other.name and self.bits == other.bits
                and self.ticks == other.ticks)

    def __str__(self):
        return f"{self.name} {self.bits} {self.ticks}"


class Gate:
    """A link, at first without flows, that refuses what would break a promise that it has given."""

    def __init__(self, gap):
        # The link and its promises, which no deed changes: it makes others.
        self._state = (Link(gap), ())
        self._past = []

    @property
    def link(self):
        return self._state[0]

    @property
    def gap(self):
        return self.link.gap

    @gap.setter
    def gap(self, gap):
        self.set_gap(gap)

    @property
    def promises(self):
        return self._state[1]

    @property
    def deeds(self):
        return len(self._past)

    def __contains__(self, name):
        return name in self.link

    def __len__(self):
        return len(self.link)

    def __iter__(self):
        raise TypeError("a gate cannot be iterated over")

    def __getitem__(self, name):
        return self.link[name]

    def __setitem__(self, name, quantum):
        self.set_quantum(name, quantum)

    def let_in(self, flow, *promises):
        """Let a flow come to the link, and give promises."""
        check_flow(flow)
        for promise in promises:
            check_promise(promise)
        if flow.name in self:
            raise Known(flow.name)
        link = self.link | flow
        check_promised(link, promises)
        self._keep("in", link, with_promises(self.promises, promises))

    def give(self, promise):
        """Give a promise."""
        check_promise(promise)
        check_promised(self.link, [promise])
        self._keep("give", self.link, with_promises(self.promises, [promise]))

    def release(self, promise):
        """Take a promise back."""
        check_promise(promise)
        if promise not in self.promises:
            raise BadPromise("unknown")
        self._keep("release", self.link, tuple([one for one in self.promises if one != promise]))

    def leave(self, name):
        """Let a flow go, with all its promises."""
        link = self.link - name
        self._keep("out", link, tuple([one for one in self.promises if one.name != name]))

    def set_quantum(self, name, quantum):
        """Give a flow another quantum."""
        flow = self.link[name].with_quantum(quantum)
        self._keep("quantum", self.link | flow, self.promises)

    def set_gap(self, gap):
        """Give the link another gap."""
        self._keep("gap", self.link.with_gap(gap), self.promises)

    def spare(self, promise):
        """How many ticks earlier than a promise tells its packet is gone at the latest."""
        check_promise(promise)
        check_promised(self.link, [promise])
        return promise.ticks - ticks_of(self.link, promise)

    def undo(self):
        """Take back the last deed; its word."""
        return take_back(self)

    def trial(self):
        """A block behind which the gate is as it was when the block began."""
        return Trial(self)

    def tried(self, work):
        """What work returns for this gate, which then is as ahead of it."""
        return try_work(self, work)

    def attempt(self, work):
        """What work returns for this gate, which is as ahead of it if an error leaves it."""
        return attempt_work(self, work)

    def twin(self):
        """An equal gate without deeds that goes its own way."""
        other = Gate(self.gap)
        other._state = self._state
        return other

    def __eq__(self, other):
        return isinstance(other, Gate) and self.link == other.link and self.promises == other.promises

    def _keep(self, word, link, promises):
        """A deed comes to this link and these promises; refuse it if one of them would not hold."""
        broken = first_broken(link, promises)
        if broken is not None:
            raise Broken(broken) from Late(ticks_of(link, broken))
        write_deed(self, word, (link, promises))


def check_promise(value):
    if not isinstance(value, Promise):
        raise BadPromise("promise")


def check_promised(link, promises):
    """Refuse promises of flows that the link lacks, then those of bits at which no packet can end."""
    for promise in promises:
        check_name(link, promise.name)
    for promise in promises:
        check_packets_end(link[promise.name], promise.bits)


def ticks_of(link, promise):
    """How many ticks behind the beginning of its stretch the packet of a promise is gone at the latest."""
    return latest_ticks(link, promise.name, promise.bits)


def first_broken(link, promises):
    """The first of some promises that does not hold on a link, None if all of them hold."""
    for promise in promises:
        if ticks_of(link, promise) > promise.ticks:
            return promise
    return None


def with_promises(promises, further):
    """The ascending tuple of ascending promises and further ones; equal ones count once."""
    rows = list(promises)
    for promise in further:
        if promise not in rows:
            place = len([one for one in rows if is_ahead(one, promise)])
            rows = [*rows[:place], promise, *rows[place:]]
    return tuple(rows)


def is_ahead(one, other):
    """Whether one promise stands ahead of another one: by name, bits and ticks."""
    if one.name != other.name:
        return one.name < other.name
    if one.bits != other.bits:
        return one.bits < other.bits
    return one.ticks < other.ticks
