"""creditturns.chosen: the least and the greatest quantum, against all quanta from 1 to 1,000."""

import random

from creditturns.buckets import Bucket
from creditturns.chosen import Chosen, Roomy, greatest_quantum, least_quantum
from creditturns.errors import BadLengths, BadLink, BadNumber, BadPromise, Broken, NoFlow, NoQuantum, NoSum, TooMany
from creditturns.flows import FedSingle, Flow, Single
from creditturns.gates import Gate, Promise
from creditturns.lengths import Lengths
from creditturns.links import Link
from creditturns.waits import latest
from tests.drawn import drawn_flow, drawn_links
from tests.helper import Case, any_values, is_from, other_values

A, B, C = Flow("a", 1, Lengths(1)), Single("b", 2, 3), Flow("c", 4, Lengths(4, 6))
NEAR = Link(1, A, B)


def plain_least(link, name, bits, ticks):
    """The three numbers of the Chosen, or None, by a look at all quanta."""
    lates = [latest(link | link[name].with_quantum(quantum), name, bits).ticks for quantum in range(1, 1001)]
    for at, late in enumerate(lates):
        if late <= ticks:
            return at + 1, late, lates[at - 1] if at else None
    return None


def plain_greatest(link, lengths, promises):
    """The three values of the Roomy, or None, by a look at all quanta."""
    last = None
    for quantum in range(1, 1001):
        wide = link | Flow("zzz", quantum, lengths)
        for one in promises:
            if latest(wide, one.name, one.bits).ticks > one.ticks:
                return last and (last, one, latest(wide, one.name, one.bits).ticks)
        last = quantum
    return 1000, None, None


class LeastQuanta(Case):

    def look(self, link, name, bits, ticks):
        right = plain_least(link, name, bits, ticks)
        if right is None:
            self.refuses(NoQuantum(), least_quantum, link, name, bits, ticks)
            return None
        found = least_quantum(link, name, bits, ticks)
        self.assertIs(type(found), Chosen)
        for value, meant in zip((found.quantum, found.ticks, found.before), right):
            self.same(value, meant)
        self.assertEqual(least_quantum(ticks=ticks, bits=bits, name=name, link=link), found)
        return found.quantum

    def test_by_hand(self):
        self.assertEqual(least_quantum(NEAR, "a", 3, 12), Chosen(3, 8, 13))
        self.assertEqual(least_quantum(NEAR, "a", 3, 13), Chosen(2, 13, 15))
        self.assertEqual(least_quantum(NEAR, "a", 3, 15), Chosen(1, 15, None))
        self.assertEqual(least_quantum(NEAR, "a", 3, 10 ** 60), Chosen(1, 15, None))
        self.refuses(NoQuantum(), least_quantum, NEAR, "a", 3, 7)
        self.refuses(NoQuantum(), least_quantum, NEAR, "a", 3, 0)

    def test_all_quanta(self):
        told = random.Random(1)
        seen = set()
        for link in drawn_links(51, 30, least=1):
            name = told.choice(link.names)
            bits = link[name].lengths.ceiling(told.choice((1, 5, 30, 200, 1500)))
            lates = sorted({latest(link | link[name].with_quantum(quantum), name, bits).ticks
                            for quantum in (1, 2, 3, 7, 20, 400, 1000)})
            for ticks in {told.choice(lates), lates[0], lates[-1], told.choice(lates) - 1, told.choice(lates) + 1}:
                seen.add(self.look(link, name, bits, ticks))
        self.assertTrue({None, 1} < seen and len(seen) > 10, seen)

    def test_the_greatest_quantum_that_there_is(self):
        # 2,000 bits go in two turns with 1,000 alone.
        link = Link(1, A, Single("b", 1, 60))
        self.assertEqual(least_quantum(link, "a", 2000, 2000 + 4 + 60), Chosen(1000, 2064, 2066))
        self.refuses(NoQuantum(), least_quantum, link, "a", 2000, 2063)

    def test_long_packets(self):
        self.look(Link(3, C, Single("b", 7, 60)), "c", 60, 200)
        self.look(Link(3, C, Single("b", 7, 60)), "c", 10 ** 3, 4000)
        late = latest(NEAR, "a", 10 ** 30).ticks
        self.assertEqual(least_quantum(NEAR, "a", 10 ** 30, late), Chosen(1, late, None))
        self.assertEqual(least_quantum(NEAR, "a", 10 ** 30, late - 1).before, late)

    def test_the_link_stays(self):
        link = Link(1, FedSingle("a", 1, 1, Bucket(2, 1, 6)), B)
        least_quantum(link, "a", 3, 12)
        self.assertEqual(str(link), "gap 1; a 1 : 1 : 2 1 6; b 2 : 3")

    def test_errors_in_their_order(self):
        for value in other_values(lambda value: isinstance(value, Link)):
            self.refuses(BadLink("link"), least_quantum, value, "x", None, None)
            self.refuses(BadLink("link"), least_quantum, value, "a", 1, 1)
        for value in other_values(lambda value: isinstance(value, str) and value in ("a", "b")):
            self.refuses(NoFlow(value), least_quantum, NEAR, value, None, None)
            self.refuses(NoFlow(value), least_quantum, NEAR, value, 1, 1)
        for value in other_values(lambda value: is_from(value, 0, 10 ** 60)):
            self.refuses(BadNumber(value), least_quantum, NEAR, "b", value, None)
            self.refuses(BadNumber(value), least_quantum, NEAR, "b", 3, value)
            self.refuses(BadNumber(value), least_quantum, NEAR, "b", 4, value)
        for bits in (0, 1, 4, 10 ** 30):
            self.refuses(NoSum(bits), least_quantum, NEAR, "b", bits, 0)
            self.refuses(NoSum(bits), least_quantum, NEAR, "b", bits, 10 ** 9)


class GreatestQuanta(Case):

    def look(self, link, lengths, promises):
        right = plain_greatest(link, lengths, promises)
        if right is None:
            self.refuses(NoQuantum(), greatest_quantum, link, lengths, promises)
            return None
        found = greatest_quantum(link, lengths, promises)
        self.assertIs(type(found), Roomy)
        self.same(found.quantum, right[0])
        self.assertIs(found.promise, right[1])
        self.same(found.ticks, right[2])
        self.assertEqual(greatest_quantum(promises=tuple(promises), lengths=lengths, link=link), found)
        return found.quantum

    def test_by_hand(self):
        one = Promise("a", 1, 20)
        self.assertEqual(greatest_quantum(NEAR, Lengths(4, 6), [one]), Roomy(8, one, 21))
        self.assertIs(greatest_quantum(NEAR, Lengths(4, 6), (one,)).promise, one)
        self.assertEqual(greatest_quantum(NEAR, Lengths(4, 6), []), Roomy(1000, None, None))
        self.assertEqual(greatest_quantum(NEAR, Lengths(4, 6), ()), Roomy(1000, None, None))
        self.assertEqual(greatest_quantum(Link(1), Lengths(60), ()), Roomy(1000, None, None))
        self.refuses(NoQuantum(), greatest_quantum, NEAR, Lengths(4, 6), [Promise("a", 1, 12)])
        self.assertEqual(greatest_quantum(NEAR, Lengths(4, 6), [Promise("a", 1, 13)]).quantum, 4)

    def test_the_first_promise_as_passed(self):
        rows = [Promise("b", 3, 99), Promise("a", 2, 40), Promise("a", 1, 20), Promise("a", 1, 21)]
        both = [Promise("a", 1, 20), Promise("a", 1, 20)]
        for promises in (rows, rows[::-1], both, rows + both):
            found = greatest_quantum(NEAR, Lengths(4, 6), promises)
            self.look(NEAR, Lengths(4, 6), promises)
            self.assertEqual(found.quantum, 8)
        one, two = Promise("b", 3, 27), Promise("a", 2, 32)
        self.look(NEAR, Lengths(1), [one, two])
        self.look(NEAR, Lengths(1), [two, one])

    def test_all_quanta(self):
        told = random.Random(2)
        seen = set()
        for link in drawn_links(53, 60, longest=30):
            if len(link) < 6:
                lengths = drawn_flow(told, "x", 30).lengths
                promises = []
                for _ in range(told.randrange(1, 5)):
                    name = told.choice(link.names)
                    bits = link[name].lengths.ceiling(told.choice((1, 5, 30)))
                    late = latest(link | Flow("x", told.choice((1, 2, 9, 100, 1000)), lengths), name, bits).ticks
                    promises.append(Promise(name, bits, max(0, late + told.choice((-1, 0, 0, 0, 5)))))
                seen.add(self.look(link, lengths, promises))
        self.assertTrue({None, 1, 1000} < seen and len(seen) > 10, seen)

    def test_five_flows_and_six(self):
        link = Link(1, *[Single(name, 1, 1) for name in "abcde"])
        self.assertEqual(self.look(link, Lengths(1), [Promise("c", 1, 100)]), 89)
        self.refuses(TooMany("flows", 6), greatest_quantum, link | B.renamed("z"), Lengths(1), [])
        self.refuses(TooMany("flows", 6), greatest_quantum, link | B.renamed("z"), Lengths(1), [Promise("c", 1, 0)])
        # The names a to f are taken, or those behind them.
        self.assertEqual(greatest_quantum(Link(1, *[Single(name, 1, 1) for name in "bcdef"]), Lengths(1),
                                          [Promise("c", 1, 100)]).quantum, 89)

    def test_a_gate_lets_just_this_quantum_in(self):
        told = random.Random(3)
        for link in drawn_links(57, 40):
            if len(link) < 6:
                gate = Gate(link.gap)
                for flow in link:
                    gate.let_in(flow)
                name = told.choice(link.names)
                bits = link[name].longest
                gate.give(Promise(name, bits, latest(link, name, bits).ticks + told.randrange(10, 400)))
                lengths = drawn_flow(told, "x").lengths
                try:
                    found = greatest_quantum(gate.link, lengths, gate.promises)
                except NoQuantum:
                    continue
                gate.let_in(Flow("x", found.quantum, lengths))
                if found.quantum < 1000:
                    self.refuses(Broken(found.promise), gate.set_quantum, "x", found.quantum + 1)

    def test_arguments_stay(self):
        promises = [Promise("a", 1, 20)]
        greatest_quantum(NEAR, Lengths(4, 6), promises)
        self.assertEqual((str(NEAR), [str(one) for one in promises]), ("gap 1; a 1 : 1; b 2 : 3", ["a 1 20"]))

    def test_errors_in_their_order(self):
        no_flow, no_sum, broken = Promise("x", 1, 1), Promise("b", 4, 1), Promise("a", 1, 1)
        for value in other_values(lambda value: isinstance(value, Link)):
            self.refuses(BadLink("link"), greatest_quantum, value, None, None)
            self.refuses(BadLink("link"), greatest_quantum, value, Lengths(1), [])
        for value in other_values(lambda value: isinstance(value, Lengths)):
            self.refuses(BadLengths("lengths"), greatest_quantum, NEAR, value, None)
            self.refuses(BadLengths("lengths"), greatest_quantum, NEAR, value, [])
        for value in other_values(lambda value: isinstance(value, (list, tuple))):
            self.refuses(BadPromise(None), greatest_quantum, NEAR, Lengths(1), value)
        for value in other_values(lambda value: isinstance(value, Promise)):
            self.refuses(BadPromise(0), greatest_quantum, NEAR, Lengths(1), [value])
            self.refuses(BadPromise(2), greatest_quantum, NEAR, Lengths(1), (no_sum, no_flow, value, value))
        six = Link(1, *[Single(name, 1, 1) for name in "acdefg"]) - "g" | B
        for link in (NEAR, six):
            self.refuses(NoFlow("x"), greatest_quantum, link, Lengths(1), [broken, no_sum, no_flow, Promise("y", 1, 1)])
            self.refuses(NoSum(4), greatest_quantum, link, Lengths(1), [broken, no_sum, Promise("b", 5, 1)])
        self.refuses(TooMany("flows", 6), greatest_quantum, six, Lengths(1), [broken])
        self.refuses(NoQuantum(), greatest_quantum, NEAR, Lengths(1), [broken])


class Papers(Case):

    def test_papers(self):
        for made, fields in ((Chosen, ["quantum", "ticks", "before"]), (Roomy, ["quantum", "promise", "ticks"])):
            self.keeps_any_values(made, fields)
            self.compares_as_a_paper(made, fields)
        self.assertEqual(len([value for value in any_values() if value in (Chosen(7, 7, None), Roomy(7, None, None))]), 2)
