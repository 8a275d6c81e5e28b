"""The errors of creditturns.  Each keeps its fields in attributes of their names."""


class CreditError(ValueError):
    """The base of all errors of this package."""


class BadInput(CreditError):
    """An argument is not what it should be."""


class Refused(CreditError):
    """The arguments are of the right kinds, but cannot stand here."""


class NoAnswer(CreditError):
    """What is asked for does not exist."""


class BadArrivals(BadInput):
    """What should be arrivals is none; at tells the first wrong item, None the whole."""

    def __init__(self, at):
        self.at = at


class BadBucket(BadInput):
    """What should be a bucket, or a part of one, is none; or it does not fit."""

    def __init__(self, part):
        self.part = part


class BadFlow(BadInput):
    """What should be a flow, or a part of one, is none."""

    def __init__(self, part):
        self.part = part


class BadGap(BadInput):
    """What should be a gap is none."""

    def __init__(self, value):
        self.value = value


class BadGate(BadInput):
    """What should be a gate is none."""

    def __init__(self, part):
        self.part = part


class BadLengths(BadInput):
    """What should be lengths, or a number of them, is none."""

    def __init__(self, part):
        self.part = part


class BadLine(BadInput):
    """A line told to a desk has a word that cannot stand."""

    def __init__(self, word):
        self.word = word


class BadLink(BadInput):
    """What should be a link, or a part of one, is none."""

    def __init__(self, part):
        self.part = part


class BadName(BadInput):
    """What should be a name is none."""

    def __init__(self, value):
        self.value = value


class BadNumber(BadInput):
    """What should be a number of a certain kind is none."""

    def __init__(self, value):
        self.value = value


class BadPlay(BadInput):
    """What should be a play is none."""

    def __init__(self, part):
        self.part = part


class BadPromise(BadInput):
    """What should be a promise, or a part of one, is none."""

    def __init__(self, part):
        self.part = part


class BadQuantum(BadInput):
    """What should be a quantum is none."""

    def __init__(self, value):
        self.value = value


class BadRatio(BadInput):
    """What should be a ratio, or a part of one, is none."""

    def __init__(self, part):
        self.part = part


class BadText(BadInput):
    """A text has a word that cannot stand."""

    def __init__(self, line, word):
        self.line = line
        self.word = word


class BadTurns(BadInput):
    """What should be turns is none."""

    def __init__(self, at):
        self.at = at


class Broken(Refused):
    """A promise would not hold."""

    def __init__(self, promise):
        self.promise = promise


class Known(Refused):
    """A flow of this name is there already."""

    def __init__(self, name):
        self.name = name


class NoFlow(Refused):
    """There is no flow of this name."""

    def __init__(self, name):
        self.name = name


class TooMany(Refused):
    """There are more things of a kind than there may be."""

    def __init__(self, what, most):
        self.what = what
        self.most = most


class Waiting(Refused):
    """The flow of this name waits."""

    def __init__(self, name):
        self.name = name


class Grows(NoAnswer):
    """The delays have no bound."""


class Late(NoAnswer):
    """Packets can be as late as this."""

    def __init__(self, ticks):
        self.ticks = ticks


class NoCredit(NoAnswer):
    """The flow can have no such credit."""

    def __init__(self, number):
        self.number = number


class NoDeed(NoAnswer):
    """There is nothing to take back."""


class NoQuantum(NoAnswer):
    """No quantum will do."""


class NoSum(NoAnswer):
    """This is no sum of the lengths."""

    def __init__(self, number):
        self.number = number


class Round(NoAnswer):
    """The paper shows that the delays grow, round by round."""

    def __init__(self, paper):
        self.paper = paper
