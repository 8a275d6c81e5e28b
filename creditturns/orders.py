"""The lines that are told to a desk: their forms, what they do with its gate, and their answers."""

from creditturns.aparts import apart
from creditturns.chosen import least_quantum
from creditturns.delays import delay, growing
from creditturns.errors import BadLine, BadText, Broken, NoDeed, NoQuantum
from creditturns.flows import Flow, take_flow
from creditturns.gates import Promise
from creditturns.keeps import keeps
from creditturns.links import Link
from creditturns.services import service, until
from creditturns.texts import MOST_TOLD, arrival_text, gate_text
from creditturns.waits import latest
from creditturns.words import words_of
from creditturns.worsts import worst


def set_gap(gate, gap):
    gate.set_gap(gap)


def set_quantum(gate, name, quantum):
    gate.set_quantum(name, quantum)


def leave(gate, name):
    gate.leave(name)


def let_in(gate, flow):
    gate.let_in(flow)


def give(gate, name, bits, ticks):
    gate.give(Promise(name, bits, ticks))


def release(gate, name, bits, ticks):
    gate.release(Promise(name, bits, ticks))


def tell_undo(gate):
    try:
        return gate.undo()
    except NoDeed:
        return "nothing"


def tell_link(gate):
    return str(gate.link)


def tell_gate(gate):
    return gate_text(gate).replace("\n", " ; ")


def tell_most(gate, name, turns):
    flow = gate[name]
    return str(flow(turns))


def tell_fewest(gate, name, turns):
    return str(gate[name].fewest(turns))


def tell_keeps(gate, name):
    return " ".join([str(credit) for credit in keeps(gate[name])])


def tell_latest(gate, name, bits):
    return str(latest(gate.link, name, bits).ticks)


def tell_until(gate, name, bits):
    return str(until(gate.link, name, bits))


def tell_service(gate, name, ticks):
    return str(service(gate.link, name, ticks))


def tell_worst(gate, name, bits):
    return ", ".join([arrival_text(arrival) for arrival in worst(gate.link, name, bits).play.arrivals])


def tell_delay(gate, name):
    paper = growing(gate.link, name)
    if paper is not None:
        return f"grows {paper.bits} {paper.further} {paper.ticks} {paper.more}"
    found = delay(gate.link, name)
    return f"{found.ticks} {found.bits}"


def tell_apart(gate, name, other):
    found = apart(gate[name], gate[other])
    return f"{found.number} {found.turns}"


def tell_spare(gate, name, bits, ticks):
    return str(gate.spare(Promise(name, bits, ticks)))


def tell_chosen(gate, name, bits, ticks):
    try:
        return str(least_quantum(gate.link, name, bits, ticks).quantum)
    except NoQuantum:
        return "none"


# For the first word of each line the kinds of the words behind it.
FORMS = {
    "gap": ("gap",), "quantum": ("name", "quantum"), "leave": ("name",), "flow": ("flow",),
    "promise": ("name", "from one", "from zero"), "release": ("name", "from one", "from zero"),
    "undo": (), "link": (), "gate": (), "most": ("name", "from zero"), "fewest": ("name", "from zero"),
    "keeps": ("name",), "latest": ("name", "from one"), "until": ("name", "from zero"),
    "service": ("name", "from zero"), "worst": ("name", "from one"), "delay": ("name",), "apart": ("name", "name"),
    "spare": ("name", "from one", "from zero"), "chosen": ("name", "from one", "from zero"),
}
DEEDS = {"gap": set_gap, "quantum": set_quantum, "leave": leave, "flow": let_in, "promise": give, "release": release}
ANSWERS = {
    "undo": tell_undo, "link": tell_link, "gate": tell_gate, "most": tell_most, "fewest": tell_fewest,
    "keeps": tell_keeps, "latest": tell_latest, "until": tell_until, "service": tell_service, "worst": tell_worst,
    "delay": tell_delay, "apart": tell_apart, "spare": tell_spare, "chosen": tell_chosen,
}


def answer_of(gate, line):
    """Do any value that is a line with a gate; its answer."""
    word, parts = read_line(line)
    if word in DEEDS:
        return answer_of_deed(gate, word, parts)
    action = ANSWERS[word]
    return action(gate, *parts)


def answer_of_deed(gate, word, parts):
    action = DEEDS[word]
    try:
        action(gate, *parts)
    except Broken as caught:
        return f"broken {caught.promise}"
    return "ok"


def read_line(line):
    """The first word of any value that is a line, and what its other words tell."""
    if not isinstance(line, str):
        raise BadLine(0)
    words = words_of(line)
    try:
        word = words.take_one_of(list(FORMS))
        parts = [take_part(words, kind) for kind in FORMS[word]]
        words.take_end()
    except BadText as caught:
        raise BadLine(caught.word) from None
    return word, parts


def take_part(words, kind):
    """What the next Words tell, which must be of this kind."""
    if kind == "name":
        return words.take_name("")
    if kind == "flow":
        return take_flow(words)
    if kind == "gap":
        return words.take_number(1, Link.MOST_GAP)
    if kind == "quantum":
        return words.take_number(1, Flow.MOST)
    return words.take_number(1 if kind == "from one" else 0, MOST_TOLD)
