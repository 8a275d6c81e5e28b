"""Plays, turns and gates that are read from their texts, line by line and word by word."""

from creditturns.checks import MOST_MOMENT, MOST_PACKETS
from creditturns.errors import BadText
from creditturns.flows import take_flow
from creditturns.gates import Gate, Promise
from creditturns.lengths import Lengths
from creditturns.links import Link, take_gap, take_parts
from creditturns.plays import Arrival, Play, Turn
from creditturns.texts import MOST_TOLD
from creditturns.waits import latest_ticks
from creditturns.words import check_text, parts_of, words_of


def read_play(text):
    """The Play with this text."""
    lines = lines_of(text)
    take_head(lines, "play")
    if len(lines) == 1:
        raise BadText(1, 0)
    gap, flows = take_parts(parts_of(lines[1], 1))
    link = Link(gap, *flows)
    arrivals = []
    least = 0
    for at in range(2, len(lines)):
        words = words_of(lines[at], at)
        if len(arrivals) == MOST_PACKETS:
            words.refuse()
        arrival = take_arrival(words, link, least)
        arrivals.append(arrival)
        least = arrival.moment
    return Play(link, arrivals)


def read_turns(text):
    """The tuple of Turns with this text."""
    lines = lines_of(text)
    take_head(lines, "turns")
    turns = []
    least = 0
    for at in range(1, len(lines)):
        turn = take_turn(words_of(lines[at], at), least)
        turns.append(turn)
        least = turn.moment + 1
    return tuple(turns)


def read_gate(text):
    """The Gate with this text, which has nothing to take back."""
    lines = lines_of(text)
    gate = Gate(take_gap(words_of(lines[0]), "gate"))
    ahead = ""
    at = 1
    while at < len(lines) and not is_promise(lines[at]):
        words = words_of(lines[at], at)
        if len(gate) == Link.MOST_FLOWS:
            words.refuse()
        flow = take_flow(words, ahead)
        gate.let_in(flow)
        ahead = flow.name
        at += 1
    promise = None
    for further in range(at, len(lines)):
        promise = take_promise(words_of(lines[further], further), gate.link, promise)
        gate.give(promise)
    return gate.twin()


def lines_of(text):
    """The lines of any value that is a string."""
    check_text(text)
    return text.split("\n")


def take_head(lines, mark):
    """Look at a first line, which must be one word."""
    words = words_of(lines[0])
    words.take_mark(mark)
    words.take_end()


def take_arrival(words, link, least):
    """The Arrival at the least moment or later that Words tell to their end."""
    moment = words.take_number(least, MOST_MOMENT)
    name = words.take_one_of(link.names)
    length = words.take_one_of([str(number) for number in link[name].lengths])
    words.take_end()
    return Arrival(moment, name, int(length))


def take_turn(words, least):
    """The Turn at the least moment or later that Words tell to their end."""
    name = words.take_name("")
    moment = words.take_number(least, MOST_TOLD)
    credit = words.take_number(0, Lengths.MOST - 1)
    rest = words.take_number(0, Lengths.MOST - 1)
    mark = words.take_one_of(("kept", "left"))
    lengths = []
    while not words.is_over():
        lengths.append(words.take_number(1, Lengths.MOST))
    return Turn(name, moment, credit, tuple(lengths), rest, mark == "left")


def is_promise(line):
    """Whether a line of a gate tells a promise: a flow can be called so, too."""
    words = line.split(" ")
    return words[0] == "promise" and words[2:3] != [":"]


def take_promise(words, link, ahead):
    """The Promise that Words tell to their end.

    It holds on the link, and stands behind the one ahead, which is None for the first one.
    """
    words.take_mark("promise")
    name = words.take_one_of([name for name in link.names if ahead is None or name >= ahead.name])
    is_same = ahead is not None and name == ahead.name
    bits = words.take_number(ahead.bits if is_same else 1, MOST_TOLD)
    if not link[name].lengths.has(bits):
        words.refuse_last()
    least = latest_ticks(link, name, bits)
    if is_same and bits == ahead.bits:
        least = max(int(least), ahead.ticks + 1)
    ticks = words.take_number(least, MOST_TOLD)
    words.take_end()
    return Promise(name, bits, ticks)
