"""creditturns.compared: which packets are later and which flows harm, against looks at many turns."""

import random
from math import lcm

from creditturns.buckets import Bucket
from creditturns.compared import Harm, Later, alike, harms, later
from creditturns.errors import BadFlow, BadLink, NoFlow, TooMany
from creditturns.flows import Fed, Flow, Single, Spread
from creditturns.lengths import Lengths
from creditturns.links import Link
from creditturns.plays import Play
from creditturns.waits import latest
from creditturns.worsts import worst
from tests.drawn import drawn_flow, drawn_links, drawn_play
from tests.helper import Case, any_values, other_values

A, B, C = Single("a", 1, 1), Single("b", 2, 3), Flow("c", 4, Lengths(4, 6))
NEAR, FAR = Link(1, A, B), Link(1, A, C)


def plain_later(link, other, name, turns):
    """The Later over all sums of so many turns, by the latest ticks alone."""
    flow = link[name]
    for bits in range(1, turns * flow.quantum + 1):
        if flow.lengths.has(bits):
            ticks, less = latest(link, name, bits).ticks, latest(other, name, bits).ticks
            if ticks > less:
                return Later(bits, ticks, less)
    return None


def plain_harm(one, other, turns):
    for turn in range(turns + 1):
        if one(turn) > other(turn):
            return Harm(turn, one(turn), other(turn))
    return None


def rest_of(link, name):
    return link.cycle - link[name].quantum


def turns_of_bound(link, other, name):
    """The P and the R of the document, counted one by one."""
    flow, others, turns = link[name], [*link.others(name), *other.others(name)], 1
    while not (all(one.is_regular(turns) for one in others) and (turns - 1) * flow.quantum >= flow.lengths.conductor):
        turns += 1
    return turns, lcm(*[one.round_of for one in [*link, *other]])


def changed(told, link):
    """A link that differs in one point, or in all but its first flow."""
    name, way = link.names[-1], told.randrange(6)
    if way == 0 and len(link) > 1:
        return link - name
    if way == 1 and len(link) < 6:
        return link | drawn_flow(told, "g")
    if way == 2 and len(link) > 1:
        return link | drawn_flow(told, name)
    if way == 3:
        return link.with_gap(told.choice((1, 2, 3, 5)))
    if way == 4:
        return Link(link.gap, link["a"], *[drawn_flow(told, name) for name in "ghi"[:told.randrange(4)]])
    return evened(told, link)


def evened(told, link):
    """A link with another flow in the place of the last one, or two in the place of it, and an equal cycle."""
    name, quantum = link.names[-1], link[link.names[-1]].quantum
    if len(link) == 1:
        return link
    if quantum > link.gap + 1 and len(link) < 6:
        further = drawn_flow(told, "h").with_quantum(quantum - link.gap - 1)
        return link - name | further | drawn_flow(told, "i").with_quantum(1)
    return link | drawn_flow(told, name).with_quantum(quantum)


class Laters(Case):

    def look(self, link, other, name, turns):
        found = later(link, other, name)
        self.assertEqual(found, plain_later(link, other, name, turns))
        if found is not None:
            self.assertIs(type(found), Later)
            self.same(found.bits, int(found.bits))
            self.same(found.ticks, latest(link, name, found.bits).ticks)
            self.same(found.less, latest(other, name, found.bits).ticks)
        self.assertEqual(later(name=name, other=other, link=link), found)
        return found

    def test_by_hand(self):
        self.assertIs(later(NEAR, FAR, "a"), None)
        self.assertEqual(later(FAR, NEAR, "a"), Later(1, 9, 6))
        self.assertIs(later(NEAR, NEAR, "a"), None)
        self.assertIs(later(NEAR - "b", NEAR, "a"), None)
        self.assertEqual(later(NEAR, NEAR - "b", "a"), Later(1, 6, 2))

    def test_the_first_turn_and_the_least_sum_in_it(self):
        # W of 3 is 3, 6, 6, 9 with the quantum 2; W of 2 is 2, 4, 6, 8.
        link, other = Link(1, Flow("a", 7, Lengths(2, 5)), B), Link(1, Flow("a", 7, Lengths(2, 5)), Single("b", 2, 2))
        self.assertEqual(later(link, other, "a"), Later(2, latest(link, "a", 2).ticks, latest(other, "a", 2).ticks))
        self.assertIs(later(other, link, "a"), None)
        # The first turn has no sum: 5 is more than 3 in it, but the first packet ends in the second turn.
        slow = Link(1, Single("a", 3, 5), Spread("b", 2, 1, 4)), Link(1, Single("a", 3, 5), B)
        self.assertEqual(later(*slow, "a"), Later(5, 5 + 4 + 7, 5 + 4 + 6))
        self.assertEqual(later(*slow, "a"), plain_later(*slow, "a", 9))

    def test_far_turns_where_cycles_are_not_equal(self):
        # In the first turns the longest packet of the other link counts more than the greater cycle of this one.
        link, other = Link(1, A, Spread("b", 2, 1, 1)), Link(1, A, Single("b", 1, 60))
        self.assertEqual(self.look(link, other, "a", 70), Later(31, 31 + 62 + 62, 31 + 62 + 60))
        self.assertEqual(self.look(other, link, "a", 70), Later(1, 63, 5))
        slow = Single("a", 1, 60)
        self.assertEqual(self.look(link | slow, other | slow, "a", 200), Later(60, 60 + 120 + 120, 60 + 120 + 60))
        plain = [Single(name, 1, 1) for name in "bcde"] + [Single("f", 2, 1)]
        others = [Single(name, 1, 60) for name in "bcdef"]
        self.assertEqual(self.look(Link(1, A, *plain), Link(1, A, *others), "a", 400).bits, 51)
        others = [Single("bcdef"[at], 1, 56 + at) for at in range(5)]
        self.assertEqual(self.look(Link(1, A, *plain), Link(1, A, *others), "a", 400).bits, 49)
        self.assertEqual(self.look(Link(1, slow, *plain), Link(1, slow, *others), "a", 400).bits, 240)

    def test_more_flows_against_a_greater_gap(self):
        told = random.Random(3)
        for _ in range(60):
            first = drawn_flow(told, "a")
            links = [Link(told.randrange(1, 9), first, *[drawn_flow(told, name) for name in names[:told.randrange(4)]])
                     for names in ("bcd", "efg")]
            self.look_both(*links, "a")

    def look_both(self, link, other, name):
        turns, further = turns_of_bound(link, other, name)
        most = turns + 2 * further if rest_of(link, name) == rest_of(other, name) else 150
        if most <= 600:
            self.look(link, other, name, most)
            self.look(other, link, name, most)
            plain = plain_later(link, other, name, most) is None and plain_later(other, link, name, most) is None
            self.assertIs(alike(link, other, name), plain)

    def test_drawn_links(self):
        told = random.Random(1)
        seen = {True: 0, False: 0}
        for link in drawn_links(41, 250):
            other = changed(told, link)
            if "a" in other:
                seen[rest_of(link, "a") == rest_of(other, "a")] += 1
                self.look_both(link, other, "a")
        self.assertTrue(min(seen.values()) > 40, seen)

    def test_equal_cycles_and_unlike_flows(self):
        told = random.Random(4)
        seen = set()
        for _ in range(120):
            first = drawn_flow(told, "a")
            links = [Link(2, first, *[drawn_flow(told, name, 20).with_quantum(3) for name in "bc"]) for _ in range(2)]
            turns, further = turns_of_bound(*links, "a")
            if turns + further <= 300:
                found = [self.look(*links, "a", turns + 2 * further), self.look(*links[::-1], "a", turns + 2 * further)]
                seen.add((found[0] is None, found[1] is None))
                self.assertIs(alike(*links, "a"), found == [None, None])
        self.assertTrue({(True, False), (False, True), (False, False)} <= seen)

    def test_the_other_names_play_no_part(self):
        self.assertTrue(alike(NEAR, Link(1, A, B.renamed("z")), "a"))
        self.assertEqual(later(Link(1, A, C.renamed("b")), Link(1, A, B.renamed("c")), "a"), Later(1, 9, 6))

    def test_where_none_is_later_no_play_is(self):
        told = random.Random(8)
        seen = 0
        for link in drawn_links(43, 120, least=2):
            other = changed(told, link)
            if "a" in other and later(link, other, "a") is None:
                play = drawn_play(told, link)
                for stretch in play.stretches("a"):
                    for one in stretch:
                        seen += 1
                        self.assertLessEqual(one.ended - stretch[0].came, latest(other, "a", one.bits).ticks)
        self.assertGreater(seen, 50)

    def test_a_play_that_is_later(self):
        found = later(FAR, NEAR, "a")
        play = worst(FAR, "a", found.bits)
        self.assertIs(type(play.play), Play)
        self.assertEqual(play.play.delay("a", play.number), found.ticks)


class Bounds(Case):

    def look(self, link, other, whole, name="a"):
        self.assertEqual(rest_of(link, name), rest_of(other, name))
        self.assertEqual(sum(turns_of_bound(link, other, name)), whole)
        if whole <= 5000:
            self.assertEqual(later(link, other, name), plain_later(link, other, name, min(whole, 200)))
            alike(link, other, name)
        else:
            for work in (later, alike):
                self.refuses(TooMany("turns", 5000), work, link, other, name)
                self.refuses(TooMany("turns", 5000), work, other, link, name)

    def test_by_the_flow(self):
        for numbers, rounds, whole in (((58, 59), (36, 47), 4999), ((53, 58), (37, 55), 5000), ((45, 58), (47, 53), 5000),
                                       ((55, 56), (35, 58), 5001), ((49, 55), (43, 56), 5001)):
            flow = Flow("a", 1, Lengths(*numbers))
            self.look(Link(1, flow, Single("b", 1, rounds[0])), Link(1, flow, Single("b", 1, rounds[1])), whole)
            self.look(Link(1, flow, Single("b", 1, rounds[0]), Single("c", 3, 3)),
                      Link(1, flow, Single("d", 3, 1), Single("b", 1, rounds[1])), whole)

    def test_by_the_others(self):
        # The flow d is regular from the turn 3423 on; 26 * 61 and so on are rounds.
        slow = Flow("d", 1, Lengths(59, 60))
        for first, second, whole in ((1, 1, 3424), (39, 40, 4983), (38, 41, 4981), (37, 43, 5014)):
            self.look(Link(1, A, slow, Single("b", 1, first)), Link(1, A, slow, Single("b", 1, second)), whole)

    def test_by_the_round_of_the_flow_itself(self):
        slow = Flow("d", 1, Lengths(59, 60))
        for length, whole in ((60, 3423 + 60 * 59), (59, 3423 + 59)):
            flow = Single("a", 1, length)
            self.look(Link(1, flow, slow), Link(1, flow, Single("d", 1, 59)), whole)

    def test_without_a_bound_where_cycles_are_not_equal(self):
        flow = Flow("a", 1, Lengths(55, 56))
        link, other = Link(1, flow, Single("b", 1, 35)), Link(1, flow, Single("b", 1, 58))
        self.refuses(TooMany("turns", 5000), later, link, other, "a")
        for further in (other | Single("b", 2, 58), other.with_gap(2), other | A.renamed("c"), other - "b"):
            self.assertIs(type(later(further, link, "a")) is Later or type(later(link, further, "a")) is Later, True)
            alike(link, further, "a")

    def test_long_conductors(self):
        # W of 59 and 60 is never above that of 1 and 60: each sum of the former is one of the latter.
        link, other = Link(1, A, Flow("b", 1, Lengths(59, 60))), Link(1, A, Flow("b", 1, Lengths(1, 60)))
        self.assertIs(later(link, other, "a"), None)
        self.assertEqual(later(other, link, "a"), Later(2, 2 + 4 + 61, 2 + 4 + 60))


class Harms(Case):

    def look(self, one, other, turns):
        found = harms(one, other)
        self.assertEqual(found, plain_harm(one, other, turns))
        if found is not None:
            self.assertIs(type(found), Harm)
            for number, right in ((found.turns, int(found.turns)), (found.bits, one(found.turns)),
                                  (found.less, other(found.turns))):
                self.same(number, right)
        self.assertEqual(harms(other=other, one=one), found)
        return found

    def test_by_hand(self):
        self.assertIs(harms(B, C), None)
        self.assertEqual(harms(C, B), Harm(1, 6, 3))
        self.assertIs(harms(B, B.renamed("x")), None)
        self.assertEqual(harms(Single("a", 2, 1), Single("b", 1, 60)), Harm(31, 62, 60))
        self.assertEqual(harms(B, Flow("b", 2, Lengths(2, 3))), None)
        self.assertEqual(harms(Flow("b", 2, Lengths(2, 3)), B), Harm(3, 8, 6))

    def test_many_turns(self):
        told = random.Random(1)
        for _ in range(300):
            self.look(drawn_flow(told, "a"), drawn_flow(told, "b"), 500)

    def test_equal_quanta(self):
        told = random.Random(2)
        seen = set()
        for _ in range(300):
            quantum = told.choice((1, 2, 3, 6))
            found = self.look(*[drawn_flow(told, "a", 25).with_quantum(quantum) for _ in range(2)], 1500)
            seen.add(None if found is None else min(found.turns, 4))
        self.assertEqual(seen, {None, 1, 2, 3, 4})

    def test_long_rounds_and_conductors(self):
        flows = [Single("a", 1, 59), Single("b", 1, 60), Flow("c", 1, Lengths(59, 60)), Flow("d", 2, Lengths(56, 60)),
                 Spread("e", 1, 1, 60), Single("f", 1000, 60), Flow("g", 1, Lengths(1, 60)), Flow("h", 1, Lengths(48, 60))]
        for one in flows:
            for other in flows:
                self.look(one, other, 7200)

    def test_a_flow_that_does_not_harm_makes_nothing_later(self):
        told = random.Random(7)
        for link in drawn_links(47, 80, least=2):
            name = told.choice(link.names)
            flow = drawn_flow(told, name)
            found = harms(flow, link[name])
            for other in link.others(name):
                if found is None:
                    rows = [latest(one, other.name, other.longest * many).ticks for one in (link | flow, link)
                            for many in (1, 2, 3, 7)]
                    self.assertTrue(all(one <= two for one, two in zip(rows[:4], rows[4:])))

    def test_what_is_no_flow(self):
        for value in other_values(lambda value: isinstance(value, Flow)):
            self.refuses(BadFlow("one"), harms, value, A)
            self.refuses(BadFlow("one"), harms, value, value)
            self.refuses(BadFlow("other"), harms, A, value)


class Errors(Case):

    def test_what_are_no_links(self):
        for work in (later, alike):
            for value in other_values(lambda value: isinstance(value, Link)):
                for name in ("a", "x", None):
                    self.refuses(BadLink("link"), work, value, NEAR, name)
                    self.refuses(BadLink("link"), work, value, value, name)
                    self.refuses(BadLink("other"), work, NEAR, value, name)

    def test_what_is_no_name_of_a_flow_of_both(self):
        for work in (later, alike):
            for value in other_values(lambda value: value == "a" and isinstance(value, str)):
                self.refuses(NoFlow(value), work, NEAR, FAR, value)
            for name in ("b", "c"):
                self.refuses(NoFlow(name), work, NEAR, FAR, name)
                self.refuses(NoFlow(name), work, FAR, NEAR, name)

    def test_unlike_flows(self):
        bucket = Bucket(3, 1, 9)
        for flow in (Single("a", 2, 1), Single("a", 1, 2), Spread("a", 1, 1, 2), Fed("a", 1, Lengths(1), bucket)):
            for work in (later, alike):
                self.refuses(BadFlow("unlike"), work, NEAR, FAR | flow, "a")
                self.refuses(BadFlow("unlike"), work, NEAR | flow, FAR, "a")
        fed = Fed("a", 1, Lengths(1), bucket)
        self.assertEqual(later(FAR | fed, NEAR | fed, "a"), Later(1, 9, 6))
        self.assertEqual(later(FAR | Flow("a", 1, Lengths(1)), NEAR | Spread("a", 1, 1, 1), "a"), Later(1, 9, 6))

    def test_unlike_flows_ahead_of_too_many_turns(self):
        flow = Flow("a", 1, Lengths(59, 60))
        link, other = Link(1, flow, Single("b", 1, 58)), Link(1, flow, Single("b", 1, 57))
        self.refuses(TooMany("turns", 5000), later, link, other, "a")
        self.refuses(BadFlow("unlike"), later, link, other | flow.with_quantum(2), "a")
        self.refuses(NoFlow("x"), later, link, other, "x")


class Papers(Case):

    def test_papers(self):
        for made, fields in ((Later, ["bits", "ticks", "less"]), (Harm, ["turns", "bits", "less"])):
            self.keeps_any_values(made, fields)
            self.compares_as_a_paper(made, fields)
        self.assertEqual(len([value for value in any_values() if value in (Later(7, 7, 7), Harm(7, 7, 7))]), 2)
