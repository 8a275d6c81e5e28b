"""creditturns.leasts: the tables of least sums, and the look at them."""

from itertools import combinations

from creditturns.errors import BadLengths
from creditturns.leasts import Leasts, leasts, shows_leasts
from creditturns.lengths import Lengths
from creditturns.ratios import Ratio
from tests.helper import Case, any_values, is_integer, other_values, sums_up_to

SETS = [Lengths(*numbers) for many in (1, 2, 3) for numbers in combinations(range(1, 9), many)]
SETS += [Lengths(6, 10, 15), Lengths(30, 42, 60), Lengths(59, 60), Lengths(9, 17, 21), Lengths(11, 12, 13), Lengths.between(20, 40)]


def plain_rows(lengths):
    """The least sum of each rest, looked up in a list of all sums."""
    sums = sums_up_to(lengths.numbers, 3700)
    rows = [None] * lengths.shortest
    for number in reversed(sums):
        rows[number % lengths.shortest] = number
    return tuple(rows)


def exchanged(rows, at, value):
    return rows[:at] + (value,) + rows[at + 1:]


class Tables(Case):

    def test_the_rows_are_the_least_sums(self):
        for lengths in SETS:
            found = leasts(lengths)
            self.assertIs(type(found), Leasts)
            self.assertEqual(found.rows, plain_rows(lengths))
            self.assertIs(type(found.rows), tuple)

    def test_the_parts_add_up_to_the_rows(self):
        for lengths in SETS:
            found = leasts(lengths)
            self.assertIs(type(found.parts), tuple)
            self.assertEqual(len(found.parts), lengths.shortest)
            for row, parts in zip(found.rows, found.parts):
                if row is None:
                    self.assertIsNone(parts)
                else:
                    self.assertEqual(sum(length * many for length, many in parts.items()), row)
                    self.assertTrue(all(length in lengths and is_integer(many) and many >= 1
                                        for length, many in parts.items()))

    def test_equal_arguments_and_names_of_parameters(self):
        self.assertEqual(leasts(lengths=Lengths(4, 6)), leasts(Lengths(6, 4)))

    def test_what_is_done_to_a_dict_of_a_paper(self):
        lengths = Lengths(3, 5)
        found = leasts(lengths)
        found.parts[2][7] = 9
        self.assertEqual(leasts(lengths), Leasts((0, 10, 5), ({}, {5: 2}, {5: 1})))
        self.assertEqual(lengths.taken(5), {5: 1})

    def test_other_values(self):
        for value in other_values(lambda value: isinstance(value, Lengths)):
            self.refuses(BadLengths("lengths"), leasts, value)
            self.refuses(BadLengths("lengths"), shows_leasts, value, Leasts((0,), ({},)))
            self.refuses(BadLengths("lengths"), shows_leasts, value, None)


class Shown(Case):

    def refused(self, lengths, rows, parts):
        self.assertIs(shows_leasts(lengths, Leasts(rows, parts)), False)

    def test_right_ones(self):
        for lengths in SETS:
            self.assertIs(shows_leasts(lengths, leasts(lengths)), True)
        self.assertIs(shows_leasts(value=leasts(Lengths(4, 6)), lengths=Lengths(4, 6)), True)

    def test_other_parts_of_the_same_sums(self):
        lengths = Lengths(4, 5, 6, 7)
        self.assertEqual(leasts(lengths).rows, (0, 5, 6, 7))
        wide = Lengths(5, 7, 8, 9, 16)
        found = leasts(wide)
        self.assertEqual(found.rows, (0, 16, 7, 8, 9))
        for parts in ({16: 1}, {7: 1, 9: 1}, {8: 2}):
            self.assertIs(shows_leasts(wide, Leasts(found.rows, exchanged(found.parts, 1, parts))), True)

    def test_any_values(self):
        for value in any_values():
            is_right = isinstance(value, Leasts) and value.rows == (0,)
            self.assertIs(shows_leasts(Lengths(1), value), is_right)
            self.assertIs(shows_leasts(Lengths(2, 5), value), False)

    def test_rows_or_parts_that_are_no_tuples_of_their_length(self):
        lengths = Lengths(3, 4)
        found = leasts(lengths)
        self.assertEqual((found.rows, found.parts), ((0, 4, 8), ({}, {4: 1}, {4: 2})))
        self.refused(lengths, list(found.rows), found.parts)
        self.refused(lengths, found.rows, list(found.parts))
        self.refused(lengths, found.rows + (3,), found.parts)
        self.refused(lengths, found.rows, found.parts + ({3: 1},))
        self.refused(lengths, found.rows[:2], found.parts)
        self.refused(lengths, found.rows, found.parts[:2])
        self.refused(lengths, found.rows[:2], found.parts[:2])
        self.refused(lengths, (), ())
        for value in any_values():
            self.refused(lengths, value, found.parts)
            self.refused(lengths, found.rows, value)

    def test_one_thing_otherwise(self):
        for lengths in (Lengths(1), Lengths(2, 5), Lengths(4, 6), Lengths(3), Lengths(5, 7, 8)):
            found = leasts(lengths)
            for at in range(lengths.shortest):
                for value in any_values() + [found.rows[at] or 0, 4, 6, 7, 8, 9, 10, 12, 14, 15]:
                    if found.rows[at] != value or type(found.rows[at]) is not type(value):
                        self.refused(lengths, exchanged(found.rows, at, value), found.parts)
                for value in any_values():
                    if found.parts[at] != value or type(found.parts[at]) is not type(value):
                        self.refused(lengths, found.rows, exchanged(found.parts, at, value))

    def test_kinds_count(self):
        one = Lengths(1)
        self.assertIs(shows_leasts(one, Leasts((0,), ({},))), True)
        self.refused(one, (False,), ({},))
        self.refused(one, (Ratio(0),), ({},))
        lengths = Lengths(2, 3)
        self.assertIs(shows_leasts(lengths, Leasts((0, 3), ({}, {3: 1}))), True)
        self.refused(lengths, (0, 3), ({}, {3: True}))
        self.refused(Lengths(2, 1), (0, 1), ({}, {True: 1}))
        self.refused(lengths, (0, Ratio(3)), ({}, {3: 1}))

    def test_parts_that_are_wrong(self):
        lengths = Lengths(2, 5, 7)
        for parts in ({}, {5: 2}, {5: 1, 7: 0}, {5: 1, 2: 0}, {5: 2, 7: -1, 2: 1}, {1: 5}, {5: "1"}, {3: 1, 2: 1},
                      {"5": 1}, {5: None}, {(5,): 1}, [5], ((5, 1),), {7: 1, 2: -1}, None):
            self.refused(lengths, (0, 5), ({}, parts))
        self.refused(lengths, (0, 5), ({2: 0}, {5: 1}))
        self.refused(lengths, (0, None), ({}, {5: 1}))
        self.refused(lengths, (None, 5), (None, {5: 1}))

    def test_sums_that_are_not_the_least(self):
        self.refused(Lengths(2, 5), (0, 7), ({}, {5: 1, 2: 1}))
        self.refused(Lengths(2, 5), (2, 5), ({2: 1}, {5: 1}))
        self.refused(Lengths(2, 5), (10, 5), ({5: 2}, {5: 1}))
        self.refused(Lengths(4, 6), (0, None, 10, None), ({}, None, {4: 1, 6: 1}, None))
        self.refused(Lengths(4, 6), (0, None, None, None), ({}, None, None, None))
        self.refused(Lengths(3, 4), (0, 4, None), ({}, {4: 1}, None))
        self.refused(Lengths(5, 7, 8), (0, 21, 7, 8, 14), ({}, {7: 3}, {7: 1}, {8: 1}, {7: 2}))
        self.refused(Lengths(3, 5), (0, 5, 10), ({}, {5: 1}, {5: 2}))

    def test_sums_that_have_another_rest(self):
        self.refused(Lengths(2, 3), (0, 2), ({}, {2: 1}))
        self.refused(Lengths(2, 3), (0, 0), ({}, {}))
        self.refused(Lengths(3, 4), (0, 4, 4), ({}, {4: 1}, {4: 1}))

    def test_the_value_is_left_as_it_was(self):
        value = Leasts((0, 5), ({}, {5: 1}))
        shows_leasts(Lengths(2, 5), value)
        self.assertEqual(value, Leasts((0, 5), ({}, {5: 1})))


class Papers(Case):

    def test_any_values_are_kept(self):
        for value in any_values():
            for made in (Leasts(value, [value]), Leasts(parts=[value], rows=value)):
                self.assertIs(made.rows, value)
                self.assertIs(made.parts[0], value)

    def test_equality(self):
        self.assertTrue(Leasts((0, 5), ({}, {5: 1})) == Leasts((0, 5), ({}, {5: 1})))
        self.assertTrue(Leasts(1, None) == Leasts(True, None))
        self.assertTrue(Leasts(Ratio(1), 0) == Leasts(1, 0))
        self.assertTrue(Leasts(1, 2) != Leasts(2, 1))
        self.assertFalse(Leasts(1, 2) == Leasts(1, 3))
        self.assertFalse(Leasts(1, 2) == Leasts(3, 2))
        self.assertFalse(Leasts((1,), 2) == Leasts([1], 2))
        for value in any_values():
            self.assertIs(Leasts("no", "such") == value, False)
            self.assertIs(value == Leasts("no", "such"), False)
