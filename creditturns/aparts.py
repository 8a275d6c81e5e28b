"""How far two flows can be apart."""

from creditturns.errors import Known
from creditturns.flows import check_flow
from creditturns.keeps import packets_of
from creditturns.links import check_link, check_name
from creditturns.mosts import least
from creditturns.plays import Play
from creditturns.ratios import Ratio
from creditturns.rounds import first_regular, shared_round
from creditturns.rushes import Rush, arrivals_of, bits_of_rush, check_bits, ticks_of_turn


class Apart:
    """A paper: how far two flows can be apart, the least turns of the other one, and the share of both quanta."""

    def __init__(self, number, turns, ratio):
        self.number = number
        self.turns = turns
        self.ratio = ratio

    def __eq__(self, other):
        return (isinstance(other, Apart) and self.number == other.number and self.turns == other.turns
                and self.ratio == other.ratio)


class Widest:
    """A paper: a Play, and two moments between which two flows are so far apart."""

    def __init__(self, play, begins, ends):
        self.play = play
        self.begins = begins
        self.ends = ends

    def __eq__(self, other):
        return (isinstance(other, Widest) and self.play == other.play and self.begins == other.begins
                and self.ends == other.ends)


def apart(one, other):
    """The Apart of two flows."""
    check_flow(one, "one")
    check_flow(other, "other")
    number = turns = 0
    for at in range(first_whole(one, other) + shared_round([one, other])):
        further = apart_at(one, other, at)
        if further > number:
            number = further
            turns = at
    return Apart(number, turns, Ratio(number, one.quantum * other.quantum))


def apart_at(one, other, turns):
    """How far they are apart if the other one has so many turns, and one has one more."""
    return one(turns + 1) * other.quantum - other.fewest(turns) * one.quantum


def first_whole(one, other):
    """A number of turns from which on the same distances come again with each shared round.

    Ahead of it sums can be missing: one sends less and the other one more than a whole number of
    rounds later.  So the greatest distance is reached within a round behind it.
    """
    below = other.lengths.conductor + other.longest - 1
    return max(int(first_regular([one]) - 1), -(-below // other.quantum))


def widest(link, name, other):
    """A Widest of two flows of a link."""
    check_link(link)
    check_pair(link, name, other)
    first, second = link[name], link[other]
    turns = apart(first, second).turns
    slow = least(second, turns)
    check_bits(bits_of_rush(first, turns + 1) + first.longest + slow.bits + second.longest)
    rush = Rush(first, turns + 1)
    # The first flow comes to its credit alone; a longest packet keeps each of both waiting in the end.
    begins = sum([ticks_of_turn(link, row) for row in rush.ahead])
    joinings = [(0, name, [*rush.packets, first.longest]),
                (begins, other, [*packets_of(slow.parts), second.longest])]
    play = Play(link, arrivals_of(joinings))
    return Widest(play, begins, play.ended_at(name, len(rush.packets) - 1))


def check_pair(link, name, other):
    """Refuse what are no names of two flows of the link."""
    check_name(link, name)
    check_name(link, other)
    if name == other:
        raise Known(name)
