"""Links and plays that are drawn: the same ones in each run."""

import random

from creditturns.flows import Flow
from creditturns.lengths import Lengths
from creditturns.links import Link
from creditturns.plays import Arrival, Play

QUANTA = (1, 2, 3, 4, 5, 7, 9, 20)


def drawn_flow(told, name, longest=12):
    numbers = [told.randrange(1, told.choice((3, 6, longest)) + 1) for _ in range(told.randrange(1, 4))]
    return Flow(name, told.choice(QUANTA), Lengths(*numbers))


def drawn_links(seed, times, least=1, longest=12):
    told = random.Random(seed)
    for _ in range(times):
        names = "abcdef"[:told.randrange(least, 7)]
        yield Link(told.choice((1, 2, 5)), *[drawn_flow(told, name, longest) for name in names])


def drawn_play(told, link, most=40):
    """A Play with many packets, at times all of them at once."""
    span = told.choice((1, 10, 60, 200))
    moments = sorted(told.randrange(span) for _ in range(told.randrange(1, most)))
    flows = [link[told.choice(link.names)] for _ in moments]
    return Play(link, [Arrival(moment, flow.name, told.choice(flow.lengths.numbers))
                       for moment, flow in zip(moments, flows)])


def spans_of(play, name):
    """For each stretch of a flow the moments from its joining to its leaving."""
    gap = play.link.gap
    ends = [turn.moment + gap + sum(turn.lengths) for turn in play if turn.name == name and turn.is_left]
    return [(stretch[0].came, end) for stretch, end in zip(play.stretches(name), ends)]


def sent_until(play, name, moment):
    """How many bits of a flow have been sent at a moment: the ticks in which it has sent."""
    return sum(min(one.length, max(0, moment - (one.ended - one.length))) for one in play.sent if one.name == name)
