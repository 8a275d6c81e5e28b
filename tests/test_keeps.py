"""creditturns.keeps: the credits that can be kept, against a walk through the turns, and the ways to them."""

from itertools import combinations

from creditturns.buckets import Bucket
from creditturns.errors import BadFlow, NoCredit
from creditturns.flows import Fed, Flow, Single, Spread
from creditturns.keeps import Lead, keeps, lead, shows_lead
from creditturns.lengths import Lengths
from creditturns.links import Link
from creditturns.plays import Arrival, Play
from creditturns.ratios import Ratio
from tests.helper import Case, any_values, other_values
from tests.plain import walk

SETS = [numbers for many in (1, 2) for numbers in combinations(range(1, 9), many)]
SETS += [(2, 3, 7), (4, 6, 10), (6, 10, 15), (13, 17, 60), (30, 42, 60), (60,), (59, 60), (1, 60), (6, 9, 12)]
FLOWS = [Flow("f", quantum, Lengths(*numbers)) for numbers in SETS for quantum in (1, 2, 3, 4, 6, 7, 10, 35)]


def is_flow(value):
    return isinstance(value, Flow)


class Keeps(Case):

    def test_against_a_walk_through_the_turns(self):
        for flow in FLOWS:
            found = keeps(flow)
            self.assertIs(type(found), tuple)
            self.assertEqual(list(found), sorted(walk(flow)))

    def test_by_hand(self):
        self.assertEqual(keeps(flow=Single("b", 2, 3)), (0, 1, 2))
        self.assertEqual(keeps(Flow("e", 4, Lengths(4, 6))), (0, 2, 4))
        self.assertEqual(keeps(Single("a", 1, 1)), (0,))
        self.assertEqual(keeps(Single("a", 1000, 60)), (0, 20, 40))
        self.assertEqual(keeps(Spread("a", 1000, 59, 60)), tuple(range(60)))
        self.assertEqual(keeps(Fed("e", 4, Lengths(4, 6), Bucket(9, 1, 6))), (0, 2, 4))


class Leads(Case):

    def look(self, flow, credit, found, fewest):
        """The Lead by its words, and what a line does when the packets come, with a longest one behind them."""
        self.assertIs(type(found), Lead)
        self.same(found.turns, fewest)
        self.assertIs(type(found.packets), tuple)
        self.assertTrue(all(type(row) is tuple for row in found.packets))
        self.assertEqual(len(found.packets), fewest)
        packets = [length for row in found.packets for length in row]
        self.assertEqual(sum(packets), fewest * flow.quantum - credit)
        if fewest and len(packets) < 300:
            arrivals = [Arrival(0, "f", length) for length in packets + [flow.longest]]
            turns = Play(Link(1, flow), arrivals)[:fewest]
            self.assertEqual(tuple(turn.lengths for turn in turns), found.packets)
            self.assertEqual((turns[-1].rest, turns[-1].is_left), (credit, False))

    def test_with_the_fewest_turns(self):
        for flow in FLOWS:
            fewest = walk(flow)
            for credit in keeps(flow):
                found = lead(flow, credit)
                self.look(flow, credit, found, fewest[credit] if credit else 0)
                self.assertIs(shows_lead(flow, credit, found), True)
                self.assertEqual(lead(credit=credit, flow=flow), found)

    def test_no_credit(self):
        for flow in FLOWS:
            self.assertEqual(lead(flow, 0), Lead(0, ()))

    def test_by_hand(self):
        self.assertEqual(lead(Single("b", 2, 3), 2), Lead(1, ((),)))
        self.assertEqual(lead(Single("b", 2, 3), 1), Lead(2, ((), (3,))))
        self.assertEqual(lead(Flow("e", 4, Lengths(4, 6)), 2), Lead(2, ((), (6,))))
        self.assertEqual(lead(Single("f", 1, 60), 59), Lead(59, ((),) * 59))
        self.assertEqual(lead(Single("f", 7, 4), 1), Lead(3, ((4,), (4, 4), (4, 4))))

    def test_equal_flows_have_equal_leads(self):
        self.assertEqual(lead(Spread("f", 5, 2, 4), 3), lead(Fed("f", 5, Lengths(4, 3, 2), Bucket(9, 1, 1)), 3))


class Shows(Case):

    def shown(self, flow, credit, *rows):
        return shows_lead(flow, credit, Lead(len(rows), rows))

    def test_leads_with_more_turns(self):
        b, e = Single("b", 2, 3), Flow("e", 4, Lengths(4, 6))
        self.assertIs(self.shown(b, 0), True)
        self.assertIs(self.shown(b, 0, (), (3,), (3,)), True)
        self.assertIs(self.shown(b, 2, (), (3,), (3,), ()), True)
        self.assertIs(self.shown(b, 1, (), (3,), (3,), (), (3,)), True)
        self.assertIs(self.shown(e, 0, (4,)), True)
        self.assertIs(self.shown(e, 0, (4,), (4,)), True)
        self.assertIs(self.shown(e, 4, (4,), ()), True)
        self.assertIs(self.shown(e, 2, (4,), (), (6,)), True)
        self.assertIs(self.shown(e, 2, (), (6,)), True)

    def test_all_rows_of_packets_that_a_walk_finds(self):
        for flow in (Single("b", 2, 3), Flow("e", 4, Lengths(4, 6)), Flow("f", 3, Lengths(2, 5)),
                     Flow("g", 7, Lengths(2, 3))):
            for turns in range(4):
                for packets in self.rows(flow, turns * flow.quantum):
                    credit = turns * flow.quantum - sum(packets)
                    if credit < flow.longest:
                        log = Play(Link(1, flow), [Arrival(0, flow.name, one) for one in (*packets, flow.longest)])
                        rows = [turn.lengths for turn in log[:turns]]
                        self.assertIs(self.shown(flow, credit, *rows), True)
                        self.with_one_thing_otherwise(flow, credit, rows)

    def rows(self, flow, most):
        """All rows of lengths with at most so many bits."""
        found = [()]
        for row in found:
            found += [(*row, length) for length in flow.lengths if sum(row) + length <= most]
        return found

    def with_one_thing_otherwise(self, flow, credit, rows):
        for at in range(len(rows)):
            for length in flow.lengths:
                self.assertIs(self.shown(flow, credit, *rows[:at], (*rows[at], length), *rows[at + 1:]), False)
            if rows[at]:
                self.assertIs(self.shown(flow, credit, *rows[:at], rows[at][1:], *rows[at + 1:]), False)
                # The order of the packets stays: one of them goes a turn too early or too late.
                if at > 0:
                    moved = [*rows[:at - 1], (*rows[at - 1], rows[at][0]), rows[at][1:], *rows[at + 1:]]
                    self.assertIs(self.shown(flow, credit, *moved), False)
                if at + 1 < len(rows):
                    moved = [*rows[:at], rows[at][:-1], (rows[at][-1], *rows[at + 1]), *rows[at + 2:]]
                    self.assertIs(self.shown(flow, credit, *moved), False)
        for other in keeps(flow):
            self.assertIs(self.shown(flow, other, *rows), other == credit)
        for turns in (len(rows) + 1, len(rows) - 1, bool(len(rows)), None, Ratio(len(rows)), str(len(rows))):
            self.assertIs(shows_lead(flow, credit, Lead(turns, tuple(rows))), False)
        self.assertIs(self.shown(flow, credit, *rows, ()), False)
        self.assertIs(shows_lead(flow, credit, Lead(len(rows), list(rows))), False)
        if rows:
            self.assertIs(self.shown(flow, credit, list(rows[0]), *rows[1:]), False)

    def test_the_order_of_the_packets_counts(self):
        flow = Flow("f", 5, Lengths(2, 4))
        self.assertIs(self.shown(flow, 0, (2, 2), (4, 2)), True)
        self.assertIs(self.shown(flow, 0, (4,), (2, 4)), True)
        self.assertIs(self.shown(flow, 0, (2,), (4, 4)), True)
        self.assertIs(self.shown(flow, 0, (2, 4), (4,)), False)
        self.assertIs(self.shown(flow, 0, (2, 2), (2, 4)), True)
        self.assertIs(self.shown(flow, 0, (2,), (2, 2, 4)), False)

    def test_what_is_no_length(self):
        flow = Flow("f", 1, Lengths(1, 3))
        self.assertIs(self.shown(flow, 0, (1,), (1,)), True)
        self.assertIs(self.shown(flow, 0, (1,), (True,)), False)
        self.assertIs(self.shown(flow, 0, (1,), (Ratio(1),)), False)
        self.assertIs(self.shown(flow, 0, (), (2,)), False)
        self.assertIs(self.shown(flow, 0, (1,), (1, 0)), False)
        for value in any_values():
            if not (isinstance(value, int) and value == 1 and value is not True):
                self.assertIs(self.shown(flow, 0, (1,), (value,)), False)
                self.assertIs(self.shown(flow, 0, (1,), value), value == (1,))

    def test_any_values(self):
        for flow in (Single("b", 2, 3), Single("a", 1, 1)):
            for value in any_values():
                self.assertIs(shows_lead(flow, 0, value), isinstance(value, Lead) and value.turns == 0)
                self.assertIs(shows_lead(flow, 0, Lead(0, value)), value == () and isinstance(value, tuple))
                self.assertIs(shows_lead(flow, 0, Lead(value, ())), isinstance(value, int) and value is not False
                              and value == 0)
        self.assertIs(shows_lead(value=Lead(1, ((),)), credit=2, flow=Single("b", 2, 3)), True)


class Errors(Case):

    def test_what_is_no_flow(self):
        for value in other_values(is_flow):
            self.refuses(BadFlow("flow"), keeps, value)
            for credit in (0, -1, "no"):
                self.refuses(BadFlow("flow"), lead, value, credit)
                self.refuses(BadFlow("flow"), shows_lead, value, credit, None)

    def test_what_is_no_credit(self):
        for flow in (Single("b", 2, 3), Flow("e", 4, Lengths(4, 6)), Single("f", 1000, 60), Single("a", 1, 1)):
            for value in any_values() + list(range(-3, 70)):
                if not (isinstance(value, int) and not isinstance(value, bool) and value in keeps(flow)):
                    self.refuses(NoCredit(value), lead, flow, value)
                    self.refuses(NoCredit(value), shows_lead, flow, value, None)
                    self.refuses(NoCredit(value), shows_lead, flow, value, Lead(0, ()))


class Papers(Case):

    def test_papers(self):
        self.keeps_any_values(Lead, ["turns", "packets"])
        self.compares_as_a_paper(Lead, ["turns", "packets"])
