"""creditturns.rounds: rows of the most bits and of sums, beside what flows and lengths tell one by one."""

import random

from creditturns.flows import Flow, Single
from creditturns.lengths import Lengths
from creditturns.rounds import first_regular, first_regular_behind, mosts_between, shared_round, sums_between
from tests.drawn import drawn_flow
from tests.helper import Case


class Rows(Case):

    def flows(self):
        told = random.Random(1)
        for at in range(300):
            yield told, drawn_flow(told, "a", (12, 60)[at % 2])
        for quantum in (1, 2, 7, 1000):
            yield told, Flow("a", quantum, Lengths(56, 60))
            yield told, Flow("a", quantum, Lengths(59, 60))

    def test_mosts(self):
        for told, flow in self.flows():
            regular = first_regular([flow])
            for first in (1, 2, regular, max(1, regular - 1), told.randrange(1, 90)):
                for many in (0, 1, 2, told.randrange(60)):
                    self.assertEqual(mosts_between(flow, first, first + many - 1),
                                     [flow(turns) for turns in range(first, first + many)])

    def test_sums(self):
        for told, flow in self.flows():
            lengths = flow.lengths
            for first in (1, 2, lengths.conductor + 1, max(1, lengths.conductor - 1), told.randrange(1, 90)):
                for many in (0, 1, 2, told.randrange(90)):
                    self.assertEqual(sums_between(lengths, first, first + many - 1),
                                     [bits for bits in range(first, first + many) if lengths.has(bits)])

    def test_all_turns_of_a_long_conductor(self):
        flow = Flow("a", 1, Lengths(59, 60))
        self.assertEqual(mosts_between(flow, 1, 3600), [flow(turns) for turns in range(1, 3601)])

    def test_regular_turns_and_rounds(self):
        for _, flow in self.flows():
            regular = first_regular([flow])
            self.assertTrue(flow.is_regular(regular) and (regular == 1 or not flow.is_regular(regular - 1)))
        flows = [Single("a", 2, 3), Flow("b", 4, Lengths(4, 6)), Flow("c", 1, Lengths(3, 5))]
        self.assertEqual([first_regular(flows), first_regular([]), shared_round(flows), shared_round([])], [9, 1, 3, 1])
        self.assertEqual([first_regular_behind([], flows[0], bits) for bits in (0, 1, 2, 3)], [1, 2, 2, 3])
        self.assertEqual([first_regular_behind(flows, flows[0], bits) for bits in (0, 16, 17)], [9, 9, 10])
