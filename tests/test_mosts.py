"""creditturns.mosts: the most and the least against all rows of turns, and the look at their papers."""

from itertools import combinations

from creditturns.buckets import Bucket
from creditturns.errors import BadFlow, BadNumber
from creditturns.flows import Fed, Flow, Single, Spread
from creditturns.keeps import keeps
from creditturns.lengths import Lengths
from creditturns.mosts import Least, Most, least, most, shows_least, shows_most
from creditturns.ratios import Ratio
from tests.helper import Case, any_values, is_from, other_values
from tests.plain import most_and_least

SETS = [numbers for many in (1, 2) for numbers in combinations(range(1, 8), many)]
SETS += [(2, 3, 7), (4, 6, 10), (6, 10, 15), (13, 17, 60), (60,), (59, 60), (6, 9, 12)]
FLOWS = [Flow("f", quantum, Lengths(*numbers)) for numbers in SETS for quantum in (1, 2, 3, 4, 7, 10)]
WIDE = [Flow("f", 7, Lengths(4, 6)), Single("b", 2, 3), Flow("f", 1, Lengths(59, 60)), Spread("s", 1000, 1, 60),
        Fed("f", 35, Lengths(6, 10, 15), Bucket(90, 1, 6)), Single("a", 1, 1)]
B, E = Single("b", 2, 3), Flow("e", 4, Lengths(4, 6))


def is_turns(value):
    return is_from(value, 0, 10 ** 100)


def bits_of(parts):
    return sum(length * many for length, many in parts.items())


class Papers(Case):

    def look_at_parts(self, flow, paper):
        self.assertIs(type(paper.parts), dict)
        for length, many in paper.parts.items():
            self.assertTrue(length in flow.lengths and is_from(many, 1, 10 ** 100))
        self.assertEqual(bits_of(paper.parts), paper.bits)

    def look(self, flow, turns, bits, fewest):
        top, low = most(flow, turns), least(flow, turns)
        self.assertEqual((type(top), type(low)), (Most, Least))
        self.same(top.bits, bits)
        self.same(top.credit, bits - turns * flow.quantum)
        self.same(low.bits, fewest)
        self.same(low.credit, turns * flow.quantum - fewest)
        self.look_at_parts(flow, top)
        self.look_at_parts(flow, low)
        self.assertTrue(top.credit in keeps(flow) and low.credit in keeps(flow))
        self.assertTrue(turns == 0 or flow.longest in top.parts)
        self.assertEqual((most(turns=turns, flow=flow), least(turns=turns, flow=flow)), (top, low))
        self.assertIs(shows_most(flow, turns, top), True)
        self.assertIs(shows_most(value=low, turns=turns, flow=flow), False)
        self.assertIs(shows_least(value=low, turns=turns, flow=flow), True)

    def test_against_all_rows_of_turns(self):
        for flow in FLOWS:
            for turns in range(1, 5):
                self.look(flow, turns, *most_and_least(flow, turns))

    def test_no_turns(self):
        for flow in FLOWS:
            self.assertEqual((most(flow, 0), least(flow, 0)), (Most(0, 0, {}), Least(0, 0, {})))
            self.look(flow, 0, 0, 0)

    def test_numbers_of_turns_of_many_figures(self):
        for flow in WIDE:
            for turns in (10 ** 20, 3 * 10 ** 20 + 1, 10 ** 60 - 1, 10 ** 60):
                self.look(flow, turns, flow(turns), flow.fewest(turns))
        self.assertEqual(most(B, 3 * 10 ** 20), Most(6 * 10 ** 20, 0, {3: 2 * 10 ** 20}))
        self.assertEqual(least(B, 10 ** 60), Least(2 * 10 ** 60 - 2, 2, {3: (2 * 10 ** 60 - 2) // 3}))

    def test_by_hand(self):
        self.assertEqual((most(B, 1), most(B, 2)), (Most(3, 1, {3: 1}), Most(6, 2, {3: 2})))
        self.assertEqual((least(B, 1), least(B, 2)), (Least(0, 2, {}), Least(3, 1, {3: 1})))
        self.assertEqual([most(E, turns) for turns in (1, 2)], [Most(6, 2, {6: 1}), Most(12, 4, {6: 2})])
        self.assertIn(most(E, 3), [Most(16, 4, {6: 2, 4: 1})])
        self.assertEqual((least(E, 1), least(E, 2), least(E, 3)),
                         (Least(0, 4, {}), Least(4, 4, {4: 1}), Least(8, 4, {4: 2})))

    def test_dicts_belong_to_the_caller(self):
        for work in (most, least):
            found = work(E, 3)
            found.parts.clear()
            found.parts[1] = 1
            self.assertEqual(bits_of(work(E, 3).parts), work(E, 3).bits)

    def test_any_values_and_equality(self):
        for made in (Most, Least):
            self.keeps_any_values(made, ["bits", "credit", "parts"])
            self.compares_as_a_paper(made, ["bits", "credit", "parts"])
        self.assertFalse(Most(0, 0, {}) == Least(0, 0, {}))
        self.assertFalse(Least(0, 0, {}) == Most(0, 0, {}))


class Shows(Case):

    def all_parts(self, flow, bits):
        """All dicts whose parts make these bits."""
        rows = [{}]
        for length in flow.lengths:
            rows = [{**row, length: many} if many else row for row in rows for many in range(bits // length + 1)]
        return [row for row in rows if bits_of(row) == bits]

    def test_all_parts_with_the_right_bits(self):
        for flow in (B, E, Flow("f", 5, Lengths(1, 2, 4)), Flow("f", 3, Lengths(2, 5)), Single("a", 1, 1)):
            for turns in range(1, 5):
                for bits in range(flow(turns) + 8):
                    for parts in self.all_parts(flow, bits):
                        top = Most(bits, bits - turns * flow.quantum, parts)
                        low = Least(bits, turns * flow.quantum - bits, parts)
                        self.assertIs(shows_most(flow, turns, top), bits == flow(turns) and flow.longest in parts)
                        self.assertIs(shows_least(flow, turns, low), bits == flow.fewest(turns))

    def test_one_thing_otherwise(self):
        for flow in (B, E, Flow("f", 5, Lengths(1, 2, 4)), Flow("f", 9, Lengths(2, 5)), Single("a", 1, 1)):
            for turns in (0, 1, 2, 3, 7, 10 ** 30):
                for work, shows, made, other in ((most, shows_most, Most, Least), (least, shows_least, Least, Most)):
                    told = work(flow, turns)
                    rows = [told.bits, told.credit, told.parts]
                    self.assertIs(shows(flow, turns, made(*rows)), True)
                    self.assertIs(shows(flow, turns, other(*rows)), False)
                    self.assertIs(shows(flow, turns + 1, told), False)
                    for at in range(2):
                        self.numbers(lambda value: shows(flow, turns, made(*rows[:at], value, *rows[at + 1:])), rows[at])
                    self.parts(flow, lambda parts: shows(flow, turns, made(*rows[:2], parts)), told.parts)

    def numbers(self, look, right):
        for value in any_values() + [right + 1, right - 1, -right - 1, Ratio(right), str(right)]:
            self.assertIs(look(value), isinstance(value, int) and not isinstance(value, bool) and value == right)
        for value in (True, False):
            self.assertIs(look(value), False)

    def parts(self, flow, look, parts):
        for value in any_values():
            self.assertIs(look(value), isinstance(value, dict) and value == parts)
        for length in flow.lengths:
            self.assertIs(look({**parts, length: parts.get(length, 0) + 1}), False)
            for many in (0, -1, True, Ratio(1), "1", None, parts.get(length, 0) - 1):
                self.assertIs(look({**parts, length: many}), False)
            self.assertIs(look({**parts, length: Ratio(parts.get(length, 1))}), False)
        for length, many in parts.items():
            less = {one: number for one, number in parts.items() if one != length}
            self.assertIs(look(less), False)
            self.assertIs(look({**less, str(length): many}), False)
            self.assertIs(look({**less, length + 1: many} if length + 1 not in less else {}), False)
        for length in (61, 0, -1, True, None, "3"):
            self.assertIs(look({**parts, length: 1} if length not in parts else {}), False)
        self.assertIs(look(list(parts.items())), False)
        if parts == {1: 1}:
            self.assertIs(look({True: 1}), False)

    def test_a_credit_from_which_so_many_bits_cannot_go(self):
        self.assertIs(shows_most(E, 1, Most(8, 4, {4: 2})), False)
        self.assertIs(shows_most(E, 1, Most(6, 2, {6: 1})), True)
        self.assertIs(shows_most(E, 3, Most(16, 4, {4: 4})), False)
        self.assertIs(shows_most(E, 3, Most(16, 4, {4: 1, 6: 2})), True)

    def test_any_values(self):
        for value in any_values():
            self.assertIs(shows_most(B, 0, value), isinstance(value, Most))
            self.assertIs(shows_least(B, 0, value), isinstance(value, Least))
            self.assertIs(shows_most(B, 1, value), False)
            self.assertIs(shows_least(B, 1, value), False)

    def test_arguments_are_not_changed(self):
        paper = Most(12, 4, {6: 2})
        shows_most(E, 2, paper)
        self.assertEqual(paper, Most(12, 4, {6: 2}))


class Errors(Case):

    def test_what_is_no_flow(self):
        for value in other_values(lambda value: isinstance(value, Flow)):
            for turns in (0, 1, -1, "no"):
                for work in (most, least):
                    self.refuses(BadFlow("flow"), work, value, turns)
                for work in (shows_most, shows_least):
                    self.refuses(BadFlow("flow"), work, value, turns, None)

    def test_what_are_no_turns(self):
        for value in other_values(is_turns):
            for flow in (B, E):
                for work in (most, least):
                    self.refuses(BadNumber(value), work, flow, value)
                for work in (shows_most, shows_least):
                    self.refuses(BadNumber(value), work, flow, value, None)
