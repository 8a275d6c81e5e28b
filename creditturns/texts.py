"""The texts of plays, turns and gates."""

from creditturns.checks import is_name, is_within
from creditturns.errors import BadGate, BadPlay, BadTurns
from creditturns.gates import Gate
from creditturns.lengths import Lengths, is_length
from creditturns.plays import Play, Turn

# Numbers of texts have at most 60 digits.
MOST_TOLD = 10 ** 60 - 1


def play_text(play):
    """The text of a Play."""
    if not isinstance(play, Play):
        raise BadPlay("play")
    rows = [arrival_text(arrival) for arrival in play.arrivals]
    return "\n".join(["play", str(play.link), *rows])


def turns_text(turns):
    """The text of a list or tuple of Turns."""
    check_told(turns)
    rows = [turn_text(turn) for turn in turns]
    return "\n".join(["turns", *rows])


def gate_text(gate):
    """The text of a Gate."""
    if not isinstance(gate, Gate):
        raise BadGate("gate")
    rows = [str(flow) for flow in gate.link] + [f"promise {promise}" for promise in gate.promises]
    return "\n".join([f"gate {gate.gap}", *rows])


def arrival_text(arrival):
    return f"{arrival.moment} {arrival.name} {arrival.length}"


def turn_text(turn):
    mark = "left" if turn.is_left else "kept"
    lengths = [str(length) for length in turn.lengths]
    return " ".join([turn.name, str(turn.moment), str(turn.credit), str(turn.rest), mark, *lengths])


def check_told(turns):
    """Refuse what is no list or tuple of Turns that have a text together."""
    if not isinstance(turns, (list, tuple)):
        raise BadTurns("turns")
    least = 0
    for turn in turns:
        if not is_told(turn, least):
            raise BadTurns("turns")
        least = turn.moment + 1


def is_told(value, least):
    """Whether any value is a Turn, at the least moment or later, that has a text."""
    if not isinstance(value, Turn) or not is_name(value.name) or not is_within(value.moment, least, MOST_TOLD):
        return False
    if not is_credit(value.credit) or not is_credit(value.rest) or not isinstance(value.is_left, bool):
        return False
    return isinstance(value.lengths, tuple) and all([is_length(length) for length in value.lengths])


def is_credit(value):
    """Whether any value is a number below the greatest length."""
    return is_within(value, 0, Lengths.MOST - 1)
