"""creditturns.waits: how late a packet can be, by the sum that the document tells and beside drawn plays."""

import random
from itertools import permutations

from creditturns.buckets import Bucket
from creditturns.errors import BadLink, BadNumber, NoFlow, NoSum
from creditturns.flows import Fed, Flow, Single, Spread
from creditturns.lengths import Lengths
from creditturns.links import Link
from creditturns.plays import Arrival, Play
from creditturns.waits import Latest, latest
from tests.helper import Case, any_values, is_from, other_values, sums_up_to
from tests.plain import most_and_least

A, B, C = Single("a", 1, 1), Single("b", 2, 3), Flow("c", 4, Lengths(4, 6))
S, T = Spread("s", 3, 1, 5), Fed("t", 7, Lengths(2, 9), Bucket(20, 1, 3))
DUO = Link(1, A, B)
SIX = Link(2, *[Spread(name, at + 1, 1, 3) for at, name in enumerate("uvwxyz")])
LINKS = [DUO, Link(2, A, B, C), Link(3, S, B), Link(5, C), Link(1000000, T, S, C), SIX, Link(1, A, B, C, S, T)]


def is_bits(value):
    return is_from(value, 0, 10 ** 100)


class Values(Case):

    def test_by_hand(self):
        self.assertEqual(latest(DUO, "a", 2), Latest(12, 2, {"b": 6}))
        self.assertEqual([latest(DUO, "a", bits).ticks for bits in (1, 2, 3, 4)], [6, 12, 15, 21])
        self.assertEqual(latest(DUO, "b", 3), Latest(9, 2, {"a": 2}))
        self.assertEqual(latest(Link(5, C), "c", 10), Latest(25, 3, {}))
        self.assertEqual(latest(Link(2, A, B, C), "c", 4), Latest(4 + 6 + 1 + 3, 1, {"a": 1, "b": 3}))

    def test_against_all_rows_of_turns(self):
        for link in LINKS:
            for flow in link:
                for bits in sums_up_to(flow.lengths.numbers, 5 * flow.quantum)[1:]:
                    turn = -(-bits // flow.quantum)
                    mosts = {other.name: most_and_least(other, turn)[0] for other in link if other != flow}
                    found = latest(link, flow.name, bits)
                    self.assertIs(type(found), Latest)
                    self.same(found.ticks, bits + turn * len(link) * link.gap + sum(mosts.values()))
                    self.same(found.turn, turn)
                    self.same(found.mosts, mosts)
                    self.assertEqual(latest(bits=bits, name=flow.name, link=link), found)

    def test_bits_of_many_figures(self):
        even = 10 ** 59
        self.assertEqual(latest(DUO, "a", even), Latest(even + 2 * even + 2 * even + 1, even, {"b": 2 * even + 1}))
        self.assertEqual(latest(DUO, "b", 3 * 10 ** 60),
                         Latest(75 * 10 ** 59, 15 * 10 ** 59, {"a": 15 * 10 ** 59}))
        for link in LINKS:
            for flow in link:
                bits = flow.lengths.floor(10 ** 60)
                turn = -(-bits // flow.quantum)
                mosts = {other.name: other(turn) for other in link.others(flow.name)}
                ticks = bits + turn * len(link) * link.gap + sum(mosts.values())
                self.assertEqual(latest(link, flow.name, bits), Latest(ticks, turn, mosts))

    def test_flows_told_in_any_order(self):
        for flows in permutations((A, B, C)):
            self.assertEqual(latest(Link(2, *flows), "b", 6), latest(Link(2, A, B, C), "b", 6))
        self.assertEqual(latest(Link(1, A, B) | C, "a", 3), latest(Link(1, C, B, A), "a", 3))

    def test_dicts_belong_to_the_caller(self):
        found = latest(DUO, "a", 2)
        found.mosts["b"] = 0
        found.mosts["x"] = 1
        self.assertEqual(latest(DUO, "a", 2).mosts, {"b": 6})

    def test_the_link_is_not_changed(self):
        link = Link(1, A, B)
        latest(link, "a", 5)
        self.assertEqual(link, DUO)


class Plays(Case):

    def test_no_packet_is_later(self):
        told = random.Random(5)
        for link in LINKS:
            for _ in range(40):
                span = told.choice((1, 8, 40)) * link.gap
                moments = sorted(told.randrange(span) for _ in range(told.randrange(1, 60)))
                flows = [link[told.choice(link.names)] for _ in moments]
                self.look(link, Play(link, [Arrival(moment, flow.name, told.choice(flow.lengths.numbers))
                                            for moment, flow in zip(moments, flows)]))

    def look(self, link, play):
        for name in link.names:
            for stretch in play.stretches(name):
                for one in stretch:
                    found = latest(link, name, one.bits)
                    self.assertEqual(found.turn, one.turn)
                    self.assertLessEqual(one.ended - stretch[0].came, found.ticks)

    def test_packets_that_are_just_as_late(self):
        # All the others join ahead, at the same moment: without a credit this is as late as can be.
        self.assertEqual(Play(Link(5, C), [Arrival(0, "c", 4), Arrival(0, "c", 6)]).delay("c", 1), 25)
        link = Link(2, A, Single("d", 3, 3), Single("e", 4, 2))
        rows = [("d", 3)] * 4 + [("e", 2)] * 8 + [("a", 1)] * 4
        play = Play(link, [Arrival(0, name, length) for name, length in rows])
        for number in range(4):
            self.assertEqual(play.delay("a", number), latest(link, "a", number + 1).ticks)


class Errors(Case):

    def test_what_is_no_link(self):
        for value in other_values(lambda value: isinstance(value, Link)):
            for name, bits in (("a", 1), ("x", 1), (None, None), ("a", -1)):
                self.refuses(BadLink("link"), latest, value, name, bits)

    def test_what_is_no_name_of_a_flow(self):
        for value in other_values(lambda value: isinstance(value, str) and value in ("a", "b")):
            for bits in (1, 0, -1, None):
                self.refuses(NoFlow(value), latest, DUO, value, bits)
        self.refuses(NoFlow("a"), latest, Link(1), "a", 1)

    def test_what_is_no_number(self):
        for value in other_values(is_bits):
            self.refuses(BadNumber(value), latest, DUO, "a", value)
            self.refuses(BadNumber(value), latest, DUO, "b", value)

    def test_what_is_no_sum(self):
        for link in LINKS:
            for flow in link:
                sums = sums_up_to(flow.lengths.numbers, 60)
                for bits in range(61):
                    if bits == 0 or bits not in sums:
                        self.refuses(NoSum(bits), latest, link, flow.name, bits)
        self.refuses(NoSum(10 ** 60 + 1), latest, Link(1, C), "c", 10 ** 60 + 1)


class Papers(Case):

    def test_papers(self):
        self.keeps_any_values(Latest, ["ticks", "turn", "mosts"])
        self.compares_as_a_paper(Latest, ["ticks", "turn", "mosts"])
        self.assertEqual(len([value for value in any_values() if value == Latest(1, 1, {})]), 1)
