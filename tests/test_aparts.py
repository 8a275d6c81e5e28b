"""creditturns.aparts: how far two flows can be apart, against many turns, and plays in which they are."""

import random

from creditturns.aparts import Apart, Widest, apart, widest
from creditturns.buckets import Bucket
from creditturns.errors import BadFlow, BadLink, Known, NoFlow, TooMany
from creditturns.flows import Fed, Flow, Single, Spread
from creditturns.keeps import lead
from creditturns.lengths import Lengths
from creditturns.links import Link
from creditturns.plays import Play
from creditturns.ratios import Ratio
from tests.drawn import drawn_flow, drawn_links, drawn_play, sent_until, spans_of
from tests.helper import Case, any_values, other_values

A, B, C = Single("a", 1, 1), Single("b", 2, 3), Flow("c", 4, Lengths(4, 6))
TRIO = Link(1, A, B, C)


def plain_apart(one, other, most):
    """The greatest number over so many turns, and the least turns with it."""
    rows = [one(turns + 1) * other.quantum - other.fewest(turns) * one.quantum for turns in range(most)]
    return max(rows), rows.index(max(rows))


def bits_of_play(one, other):
    """The number that is at most 300."""
    turns = apart(one, other).turns
    credit = one(turns + 1) - (turns + 1) * one.quantum
    way = lead(one, credit).turns * one.quantum - credit
    return way + one(turns + 1) + one.longest + other.fewest(turns) + other.longest


class Aparts(Case):

    def look(self, one, other, most=400):
        found = apart(one, other)
        number, turns = plain_apart(one, other, most)
        self.assertIs(type(found), Apart)
        self.same(found.number, number)
        self.same(found.turns, turns)
        self.assertIs(type(found.ratio), Ratio)
        self.assertEqual(found.ratio, Ratio(number, one.quantum * other.quantum))
        self.assertEqual(apart(other=other, one=one), found)

    def test_by_hand(self):
        self.assertEqual([apart(C, B).number, apart(C, B).turns, str(apart(C, B).ratio), apart(B, C).number],
                         [24, 1, "3", 24])
        self.assertEqual(apart(A, A), Apart(1, 0, Ratio(1)))
        self.assertEqual(apart(A, B), Apart(4, 1, Ratio(2)))

    def test_many_turns(self):
        told = random.Random(1)
        for _ in range(250):
            self.look(drawn_flow(told, "a"), drawn_flow(told, "b"))

    def test_long_rounds_and_conductors(self):
        flows = [Single("a", 1, 59), Single("b", 7, 60), Flow("c", 1, Lengths(59, 60)), Flow("d", 2, Lengths(56, 60)),
                 Flow("e", 3, Lengths(30, 42, 60)), Single("f", 1000, 60), Flow("g", 1, Lengths(48, 60))]
        for one in flows:
            for other in flows:
                self.look(one, other, 9000)

    def test_both_flows_one_or_of_one_name(self):
        for flow in (A, B, C, Single("b", 7, 60), Spread("s", 3, 2, 9)):
            self.look(flow, flow)
            self.look(flow, flow.with_quantum(5))
            self.assertEqual(apart(flow, flow.renamed("other")), apart(flow, flow))
        self.look(Single("a", 3, 5), Flow("a", 2, Lengths(4, 6)))

    def test_the_class_plays_no_part(self):
        self.assertEqual(apart(Fed("b", 2, Lengths(3), Bucket(9, 1, 1)), Spread("a", 1, 1, 1)), apart(B, A))

    def test_what_is_no_flow(self):
        for value in other_values(lambda value: isinstance(value, Flow)):
            self.refuses(BadFlow("one"), apart, value, A)
            self.refuses(BadFlow("one"), apart, value, value)
            self.refuses(BadFlow("other"), apart, A, value)

    def test_drawn_plays(self):
        told = random.Random(6)
        for link in drawn_links(13, 60, least=2):
            play = drawn_play(told, link)
            for name in link.names:
                for other in link.names:
                    if name != other:
                        self.look_at_play(play, name, other)

    def look_at_play(self, play, name, other):
        """Between any two moments in which both wait they are not further apart."""
        one, two = play.link[name], play.link[other]
        bound = apart(one, two).number
        moments = {moment for sent in play.sent for moment in (sent.ended, sent.ended - sent.length)}
        ahead = {moment: sent_until(play, name, moment) * two.quantum - sent_until(play, other, moment) * one.quantum
                 for moment in moments}
        for begin, end in spans_of(play, name):
            for first, last in spans_of(play, other):
                lowest = None
                for moment in sorted(moment for moment in moments if max(begin, first) <= moment <= min(end, last)):
                    lowest = ahead[moment] if lowest is None else min(lowest, ahead[moment])
                    self.assertLessEqual(ahead[moment] - lowest, bound)


class Widests(Case):

    def look(self, link, name, other):
        found = widest(link, name, other)
        self.assertIs(type(found), Widest)
        play, begins, ends = found.play, found.begins, found.ends
        self.assertIs(type(play), Play)
        self.assertEqual(play.link, link)
        self.assertTrue(type(begins) is int and type(ends) is int and 0 <= begins <= ends)
        sent = [sent_until(play, one, ends) - sent_until(play, one, begins) for one in (name, other)]
        self.assertEqual(sent[0] * link[other].quantum - sent[1] * link[name].quantum,
                         apart(link[name], link[other]).number)
        for one in (name, other):
            self.assertEqual(len([1 for first, last in spans_of(play, one) if first <= begins and ends <= last]), 1)
        self.assertLessEqual(sum(one.length for one in play.arrivals), bits_of_play(link[name], link[other]))
        self.assertEqual(widest(other=other, name=name, link=link), found)

    def test_drawn_links(self):
        seen = set()
        for link in drawn_links(14, 150, least=2):
            for name in link.names[:3]:
                for other in link.names[-3:]:
                    if name != other and bits_of_play(link[name], link[other]) <= 300:
                        self.look(link, name, other)
                        seen.add(len(link))
                    elif name != other:
                        self.refuses(TooMany("bits", 300), widest, link, name, other)
        self.assertEqual(seen, {2, 3, 4, 5, 6})

    def test_by_hand(self):
        self.look(TRIO, "c", "b")
        self.look(TRIO, "b", "c")
        self.look(TRIO, "a", "b")
        self.look(Link(1000000, Single("d", 2, 10), C), "d", "c")
        self.look(Link(3, Single("d", 4, 5), Single("e", 3, 25)), "d", "e")

    def test_just_at_the_bound_and_beyond_it(self):
        seen = set()
        links = [Link(1, A, Single("d", quantum, 1)) for quantum in range(285, 310)]
        links += [Link(1, Single("a", *other), Single("d", *one)) for one, other in (
            ((7, 16), (2, 12)), ((3, 27), (6, 15)), ((1, 13), (6, 5)), ((1, 3), (6, 23)), ((1, 25), (4, 3)))]
        for link in links:
            whole = bits_of_play(link["d"], link["a"])
            turns = apart(link["d"], link["a"]).turns
            if whole <= 300:
                self.look(link, "d", "a")
            else:
                self.refuses(TooMany("bits", 300), widest, link, "d", "a")
            has_way = link["d"](turns + 1) > (turns + 1) * link["d"].quantum
            seen.add((whole, has_way))
        self.assertTrue({(300, False), (301, False), (300, True), (301, True)} <= seen)

    def test_many_bits(self):
        self.refuses(TooMany("bits", 300), widest, Link(1, A, Single("d", 1000, 1)), "d", "a")

    def test_equal_links_have_equal_papers(self):
        self.assertEqual(widest(Link(1, C, Spread("b", 2, 3, 3), A), "c", "b"), widest(TRIO, "c", "b"))


class Errors(Case):

    def test_what_is_no_link(self):
        for value in other_values(lambda value: isinstance(value, Link)):
            for name, other in (("a", "b"), ("x", "y"), ("a", "a"), (None, None)):
                self.refuses(BadLink("link"), widest, value, name, other)

    def test_what_are_no_names_of_flows(self):
        for value in other_values(lambda value: isinstance(value, str) and value in ("a", "b")):
            for other in ("b", value, "x", None):
                self.refuses(NoFlow(value), widest, Link(1, A, B), value, other)
            self.refuses(NoFlow(value), widest, Link(1, A, B), "a", value)

    def test_one_flow(self):
        self.refuses(Known("a"), widest, TRIO, "a", "a")
        self.refuses(Known("d"), widest, Link(1, Single("d", 1000, 1)), "d", "d")


class Papers(Case):

    def test_papers(self):
        for made, fields in ((Apart, ["number", "turns", "ratio"]), (Widest, ["play", "begins", "ends"])):
            self.keeps_any_values(made, fields)
            self.compares_as_a_paper(made, fields)
        self.assertEqual(len([value for value in any_values() if value in (Apart(7, 7, 7), Widest(None, 7, 7))]), 2)
