"""Rounds: from some turn on, what flows send grows by the same in each round."""

from math import lcm


def first_regular(flows):
    """The least number of turns from 1 on at which all of some flows are regular."""
    return max([int(flow.lengths.conductor // flow.quantum + 1) for flow in flows], default=1)


def shared_round(flows):
    """The least common multiple of the rounds of some flows."""
    turns = 1
    for flow in flows:
        turns = lcm(turns, flow.round_of)
    return turns
