"""creditturns.worsts: plays in which a packet is just as late as latest tells."""

from creditturns.errors import BadLink, BadNumber, NoFlow, NoSum, TooMany
from creditturns.flows import Flow, Single, Spread
from creditturns.keeps import lead
from creditturns.lengths import Lengths
from creditturns.links import Link
from creditturns.plays import Play
from creditturns.waits import latest
from creditturns.worsts import Worst, worst
from tests.drawn import drawn_links
from tests.helper import Case, any_values, is_from, other_values, sums_up_to
from tests.plain import play_out, sent_of

A, B, C = Single("a", 1, 1), Single("b", 2, 3), Flow("c", 4, Lengths(4, 6))
DUO = Link(1, A, B)


def bits_of_play(link, name, bits):
    """The number that is at most 300: for the others what they send in the turns, and on the way to their credit."""
    whole = bits
    turn = -(-bits // link[name].quantum)
    for flow in link.others(name):
        credit = flow(turn) - turn * flow.quantum
        whole += flow(turn) + lead(flow, credit).turns * flow.quantum - credit
    return whole


class Plays(Case):

    def look(self, link, name, bits):
        found = worst(link, name, bits)
        self.assertIs(type(found), Worst)
        play = found.play
        self.assertIs(type(play), Play)
        self.assertEqual(play.link, link)
        self.assertTrue(is_from(found.number, 0, 300))
        one, = [one for one in play.sent if (one.name, one.number) == (name, found.number)]
        stretch, = [stretch for stretch in play.stretches(name) if one in stretch]
        self.assertEqual((one.bits, one.came), (bits, stretch[0].came))
        self.assertEqual(play.delay(name, found.number), latest(link, name, bits).ticks)
        self.assertLessEqual(sum(arrival.length for arrival in play.arrivals), bits_of_play(link, name, bits))
        return found

    def test_links_of_one_to_six_flows(self):
        seen = set()
        for link in drawn_links(3, 150):
            for name in link.names:
                for bits in sums_up_to(link[name].lengths.numbers, 25)[1::3]:
                    if bits_of_play(link, name, bits) <= 300:
                        self.look(link, name, bits)
                        seen.add(len(link))
                    else:
                        self.refuses(TooMany("bits", 300), worst, link, name, bits)
        self.assertEqual(seen, {1, 2, 3, 4, 5, 6})

    def test_long_packets_and_long_ways_to_a_credit(self):
        for link in drawn_links(4, 200, longest=60):
            name = link.names[0]
            bits = link[name].longest
            if bits_of_play(link, name, bits) <= 300:
                self.look(link, name, bits)
        self.look(Link(1000000, A, Single("d", 1, 60)), "a", 1)
        self.look(Link(3, Spread("a", 9, 1, 4), Single("d", 1, 7), Single("e", 7, 20), Single("f", 3, 2)), "a", 20)

    def test_beside_a_line_that_goes_on_tick_by_tick(self):
        for link in (DUO, Link(2, A, B, C), Link(1, Single("d", 5, 7), C, B, A)):
            found = worst(link, "a", 3)
            plain = play_out(link, found.play.arrivals)
            self.assertEqual(sent_of(found.play.sent), plain.sent)

    def test_by_hand(self):
        self.assertEqual(worst(DUO, "a", 2).play.delay("a", 1), 12)
        self.assertEqual(worst(name="b", bits=3, link=DUO).play.delay("b", 0), 9)
        alone = worst(Link(5, C), "c", 10)
        self.assertEqual((sorted(one.length for one in alone.play.arrivals), alone.number), ([4, 6], 1))
        self.assertEqual(alone.play.delay("c", 1), 25)

    def test_the_same_for_equal_links(self):
        for link in drawn_links(5, 60):
            name = link.names[-1]
            bits = link[name].longest
            if bits_of_play(link, name, bits) <= 300:
                flows = list(link)
                self.assertEqual(worst(Link(link.gap, *reversed(flows)), name, bits), worst(link, name, bits))
        self.assertEqual(worst(Link(1, Flow("b", 2, Lengths(3)), Spread("a", 1, 1, 1)), "a", 4), worst(DUO, "a", 4))

    def test_the_link_is_not_changed(self):
        link = Link(1, A, B)
        worst(link, "a", 5)
        self.assertEqual(link, DUO)


class Bounds(Case):

    def test_a_flow_alone(self):
        for flow in (A, Single("a", 7, 1), Spread("a", 1000, 1, 60)):
            link = Link(1, flow)
            self.assertEqual(worst(link, "a", 300).play.delay("a", worst(link, "a", 300).number),
                             latest(link, "a", 300).ticks)
            self.refuses(TooMany("bits", 300), worst, link, "a", 301)
            self.refuses(TooMany("bits", 300), worst, link, "a", 10 ** 60)

    def test_a_flow_beside_it(self):
        link = Link(1, A, Single("d", 1, 1))
        self.assertEqual((bits_of_play(link, "a", 150), worst(link, "a", 150).number), (300, 149))
        self.refuses(TooMany("bits", 300), worst, link, "a", 151)
        link = Link(1, Single("a", 1000, 1), Single("d", 20, 10))
        self.assertEqual((bits_of_play(link, "a", 280), worst(link, "a", 280).number), (300, 279))
        self.refuses(TooMany("bits", 300), worst, link, "a", 281)

    def test_the_way_to_its_credit(self):
        # In one turn b sends 3 bits from the credit 1, to which it comes in two turns with 3 bits.
        link = Link(1, Single("a", 1000, 1), B)
        self.assertEqual([bits_of_play(link, "a", bits) for bits in (294, 295)], [300, 301])
        self.assertEqual(worst(link, "a", 294).number, 293)
        self.refuses(TooMany("bits", 300), worst, link, "a", 295)
        # Turns of the way in which nothing is sent do not count.
        link = Link(1, Single("a", 1000, 1), Single("d", 1, 60), Single("e", 10, 60))
        self.assertEqual(bits_of_play(link, "a", 180), 300)
        self.assertEqual(worst(link, "a", 180).number, 179)
        self.refuses(TooMany("bits", 300), worst, link, "a", 181)

    def test_all_numbers_around_the_bound(self):
        seen = set()
        for link in (Link(1, A, B), Link(1, Single("a", 3, 1), B, C), Link(2, Single("a", 9, 1), Single("d", 7, 12)),
                     Link(1, Single("a", 5, 1), Single("d", 4, 10), Single("e", 1, 9), B)):
            for bits in range(1, 301):
                whole = bits_of_play(link, "a", bits)
                if whole > 300:
                    self.refuses(TooMany("bits", 300), worst, link, "a", bits)
                elif whole > 280:
                    self.assertEqual(worst(link, "a", bits).number, bits - 1)
                seen.add(whole)
        self.assertTrue({300, 301} <= seen)


class Errors(Case):

    def test_what_is_no_link(self):
        for value in other_values(lambda value: isinstance(value, Link)):
            for name, bits in (("a", 1), ("x", 1), (None, None), ("a", 301)):
                self.refuses(BadLink("link"), worst, value, name, bits)

    def test_what_is_no_name_of_a_flow(self):
        for value in other_values(lambda value: isinstance(value, str) and value in ("a", "b")):
            for bits in (1, 0, 1000, None):
                self.refuses(NoFlow(value), worst, DUO, value, bits)

    def test_what_is_no_number(self):
        for value in other_values(lambda value: is_from(value, 0, 10 ** 100)):
            self.refuses(BadNumber(value), worst, DUO, "a", value)

    def test_what_is_no_sum(self):
        for bits in (0, 1, 2, 4, 301, 10 ** 60):
            self.refuses(NoSum(bits), worst, DUO, "b", bits)
        self.refuses(NoSum(0), worst, DUO, "a", 0)
        self.refuses(TooMany("bits", 300), worst, DUO, "b", 303)


class Papers(Case):

    def test_papers(self):
        self.keeps_any_values(Worst, ["play", "number"])
        self.compares_as_a_paper(Worst, ["play", "number"])
        self.assertEqual(len([value for value in any_values() if value == Worst(None, 7)]), 1)
