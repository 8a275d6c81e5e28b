"""creditturns.services: the least service, by the words of the document and beside drawn plays."""

import random

from creditturns.errors import BadLink, BadNumber, NoFlow
from creditturns.flows import Flow, Single, Spread
from creditturns.lengths import Lengths
from creditturns.links import Link
from creditturns.plays import Arrival, Play
from creditturns.services import service, until
from creditturns.waits import latest
from tests.drawn import drawn_links, drawn_play, sent_until, spans_of
from tests.helper import Case, is_from, other_values, sums_up_to

A, B, C = Single("a", 1, 1), Single("b", 2, 3), Flow("c", 4, Lengths(4, 6))
DUO = Link(1, A, B)
LINKS = [DUO, Link(2, A, B, C), Link(1000000, C), Link(3, Spread("s", 3, 1, 5), B, Single("d", 1, 7)),
         Link(1, Single("e", 1, 60), Flow("f", 9, Lengths(13, 17)), C), *drawn_links(8, 30)]


def plain_until(link, name, bits):
    """The ticks for these bits, with the turns counted one by one."""
    flow, turns = link[name], 0
    while flow.fewest(turns + 1) <= bits:
        turns += 1
    others = sum(other(turns + 1) for other in link.others(name))
    return bits + (turns + 1) * len(link) * link.gap + others


class Until(Case):

    def test_by_hand(self):
        self.assertEqual([until(DUO, "a", bits) for bits in (0, 1, 2)], [5, 11, 14])
        self.assertEqual([until(link=DUO, name="b", bits=bits) for bits in (0, 1, 2, 3)], [6, 7, 8, 12])
        self.assertEqual([until(Link(5, C), "c", bits) for bits in (0, 1, 3, 4, 7, 8)], [10, 11, 13, 19, 22, 28])

    def test_sums_and_numbers_that_are_no_sums(self):
        for link in LINKS:
            for name in link.names:
                for bits in range(80):
                    self.same(until(link, name, bits), plain_until(link, name, bits))

    def test_it_grows(self):
        for link in LINKS:
            for name in link.names:
                told = [until(link, name, bits) for bits in range(90)]
                self.assertEqual(sorted(set(told)), told)

    def test_the_fact_about_the_latest(self):
        for link in LINKS:
            for flow in link:
                for bits in sums_up_to(flow.lengths.numbers, 70)[1:]:
                    late, bound = latest(link, flow.name, bits).ticks, until(link, flow.name, bits - 1) + 1
                    self.assertLessEqual(late, bound)
                    if len(flow.lengths) == 1:
                        self.assertEqual(late, bound)

    def test_bits_of_many_figures(self):
        many = 10 ** 59
        # Behind q turns of a, with q bits, b has sent the most in q + 1 turns.
        self.assertEqual(until(DUO, "a", many), many + (many + 1) * 2 + B(many + 1))
        self.assertEqual(until(DUO, "b", 6 * many), 6 * many + (3 * many + 2) * 2 + (3 * many + 2))
        self.assertEqual(until(DUO, "b", 10 ** 60 + 7) > 2 * 10 ** 60, True)

    def test_it_is_reached(self):
        """A play in which a flow that waits has got no more in so many ticks: a longest head, and all the others."""
        link = Link(1, Single("a", 1, 1), Single("d", 2, 2), Single("e", 3, 5))
        rows = [("a", 1)] * 9 + [("d", 2)] * 9 + [("e", 5)] * 2
        play = Play(link, [Arrival(0, name, length) for name, length in rows])
        for bits in range(5):
            self.assertEqual(sent_until(play, "e", until(link, "e", bits)), bits)
            self.assertEqual(sent_until(play, "e", until(link, "e", bits) + 1), bits + 1)


class Service(Case):

    def test_by_hand(self):
        self.assertEqual([service(DUO, "a", ticks) for ticks in (0, 5, 6, 11, 12)], [0, 0, 1, 1, 2])
        self.assertEqual([service(link=DUO, name="b", ticks=ticks) for ticks in (0, 6, 7, 8, 9, 12, 13)],
                         [0, 0, 1, 2, 3, 3, 4])

    def test_each_number_of_ticks(self):
        for link in LINKS:
            for name in link.names:
                bits = 0
                for ticks in range(300):
                    if until(link, name, bits) < ticks:
                        bits += 1
                    self.same(service(link, name, ticks), bits)

    def test_around_each_step(self):
        for link in LINKS:
            for name in link.names:
                for bits in [*range(40), 10 ** 9, 10 ** 30 + 7, 10 ** 59]:
                    step = until(link, name, bits)
                    self.same(service(link, name, step), bits)
                    self.same(service(link, name, step + 1), bits + 1)

    def test_no_ticks(self):
        for link in LINKS:
            for name in link.names:
                self.same(service(link, name, 0), 0)

    def test_ticks_of_many_figures(self):
        for link in LINKS:
            for name in link.names:
                for ticks in (10 ** 20, 10 ** 60 - 1, 10 ** 60):
                    bits = service(link, name, ticks)
                    self.assertLessEqual(ticks, until(link, name, bits))
                    self.assertLess(until(link, name, bits - 1), ticks)


class Plays(Case):

    def test_no_waiting_flow_gets_less(self):
        told = random.Random(4)
        for link in LINKS[:2] + LINKS[3:16]:
            for _ in range(2):
                play = drawn_play(told, link)
                for name in link.names:
                    for begin, end in spans_of(play, name):
                        self.look(play, name, begin, end)

    def look(self, play, name, begin, end):
        """From the joining, and from the end of each turn behind which the flow waits, to each end of something."""
        gap = play.link.gap
        turns = [turn.moment + gap + sum(turn.lengths) for turn in play if turn.name == name and not turn.is_left]
        moments = {moment for turn in play for moment in (turn.moment, turn.moment + gap)}
        moments = sorted({moment for moment in moments | {one.ended for one in play.sent} if begin <= moment <= end})
        sent = {moment: sent_until(play, name, moment) for moment in moments}
        for first in [begin] + [moment for moment in turns if begin < moment < end]:
            ahead = sent_until(play, name, first)
            for moment in moments:
                if moment >= first:
                    self.assertLessEqual(service(play.link, name, moment - first), sent[moment] - ahead)


class Errors(Case):

    def test_what_is_no_link(self):
        for work in (until, service):
            for value in other_values(lambda value: isinstance(value, Link)):
                for name, number in (("a", 1), ("x", 1), (None, None), ("a", -1)):
                    self.refuses(BadLink("link"), work, value, name, number)

    def test_what_is_no_name_of_a_flow(self):
        for work in (until, service):
            for value in other_values(lambda value: isinstance(value, str) and value in ("a", "b")):
                for number in (1, 0, -1, None):
                    self.refuses(NoFlow(value), work, DUO, value, number)

    def test_what_is_no_number(self):
        for work in (until, service):
            for value in other_values(lambda value: is_from(value, 0, 10 ** 100)):
                self.refuses(BadNumber(value), work, DUO, "a", value)
                self.refuses(BadNumber(value), work, DUO, "b", value)
