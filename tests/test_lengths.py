"""creditturns.lengths: sets of let lengths, and their sums against a plain list of all sums."""

from itertools import combinations
from math import gcd

from creditturns.errors import BadLengths, BadNumber, BadText, NoSum
from creditturns.lengths import Lengths
from creditturns.ratios import Ratio
from tests.helper import Case, any_values, is_from, is_integer, other_values, sums_up_to

SMALL = [numbers for many in (1, 2, 3) for numbers in combinations(range(1, 10), many)]
SETS = SMALL + [(6, 10, 15), (12, 18, 27), (30, 42, 60), (11, 60), (59, 60), (57, 59), (9, 17, 21), (60,), (1, 60), (45, 60),
                (14, 21, 35, 55), tuple(range(31, 61)), tuple(range(1, 61))]


def is_length(value):
    return is_from(value, 1, 60)


def is_lengths(value):
    return isinstance(value, Lengths)


class Making(Case):

    def test_equal_numbers_count_once_in_any_order(self):
        self.assertEqual(Lengths(5, 2, 5, 2).numbers, (2, 5))
        self.assertEqual(Lengths(60, 1).numbers, (1, 60))
        self.assertEqual(Lengths(*range(60, 0, -1)).numbers, tuple(range(1, 61)))

    def test_other_values(self):
        for value in other_values(is_length):
            self.refuses(BadLengths("number"), Lengths, value)
            self.refuses(BadLengths("number"), Lengths, 1, value)
            self.refuses(BadLengths("number"), Lengths, value, 1)

    def test_no_numbers(self):
        self.refuses(BadLengths("none"), Lengths)

    def test_the_most(self):
        self.same(Lengths.MOST, 60)
        self.same(Lengths(3).MOST, 60)

    def test_of(self):
        self.assertEqual(Lengths.of([5, 2, 5]).numbers, (2, 5))
        self.assertEqual(Lengths.of((7,)).numbers, (7,))
        self.assertEqual(Lengths.of(numbers=[7]), Lengths(7))
        self.refuses(BadLengths("none"), Lengths.of, [])
        self.refuses(BadLengths("none"), Lengths.of, ())
        for value in other_values(is_length):
            self.refuses(BadLengths("number"), Lengths.of, [3, value])
            self.refuses(BadLengths("number"), Lengths.of, (value, 3))
        for value in other_values(lambda value: isinstance(value, (list, tuple))):
            self.refuses(BadLengths("list"), Lengths.of, value)

    def test_between(self):
        self.assertEqual(Lengths.between(2, 4).numbers, (2, 3, 4))
        self.assertEqual(Lengths.between(60, 60).numbers, (60,))
        self.assertEqual(Lengths.between(1, 60).numbers, tuple(range(1, 61)))
        self.assertEqual(Lengths.between(most=6, least=5), Lengths(5, 6))
        self.refuses(BadLengths("order"), Lengths.between, 4, 3)
        for value in other_values(is_length):
            self.refuses(BadLengths("number"), Lengths.between, value, 1)
            self.refuses(BadLengths("number"), Lengths.between, 60, value)

    def test_what_is_done_to_an_argument_later(self):
        numbers = [4, 6]
        made = Lengths.of(numbers)
        numbers.append(1)
        self.assertEqual(made.numbers, (4, 6))
        self.assertEqual(numbers, [4, 6, 1])


class Looking(Case):

    def test_properties(self):
        for numbers in SETS:
            made = Lengths(*numbers)
            self.assertEqual(made.numbers, tuple(sorted(numbers)))
            self.assertIs(type(made.numbers), tuple)
            self.same(made.shortest, min(numbers))
            self.same(made.longest, max(numbers))
            self.same(made.divisor, gcd(*numbers))

    def test_conductor(self):
        for numbers in SETS:
            divisor = gcd(*numbers)
            sums = {number: True for number in sums_up_to(numbers, 3700)}
            missing = [number for number in range(0, 3601, divisor) if number not in sums]
            self.same(Lengths(*numbers).conductor, max(missing) + divisor if missing else 0)

    def test_iteration_and_len(self):
        made = Lengths(9, 3, 5)
        self.assertEqual(list(made), [3, 5, 9])
        self.assertEqual([number for number in made], [3, 5, 9])
        self.same(len(made), 3)
        self.same(len(Lengths(4, 4)), 1)

    def test_in_of_any_value(self):
        made = Lengths(2, 5, 60)
        for value in any_values():
            self.assertIs(value in made, is_integer(value) and value in (2, 5, 60))
        self.assertIs(True in Lengths(1), False)
        self.assertIs(Ratio(1) in Lengths(1), False)


class Operators(Case):

    def test_of_at_least_one_of_both_and_of_one_alone(self):
        for one in SMALL[::3]:
            for other in SMALL[::5]:
                left, right = Lengths(*one), Lengths(*other)
                self.assertEqual((left | right).numbers, tuple(sorted(set(one) | set(other))))
                for found, work in ((set(one) & set(other), lambda: left & right),
                                    (set(one) - set(other), lambda: left - right)):
                    if found:
                        self.assertEqual(work().numbers, tuple(sorted(found)))
                        self.assertIsInstance(work(), Lengths)
                    else:
                        self.refuses(BadLengths("none"), work)
                self.assertEqual((left.numbers, right.numbers), (one, other))

    def test_orders_and_equality(self):
        for one in SMALL[::3]:
            for other in SMALL[::2]:
                left, right = Lengths(*one), Lengths(*other)
                self.assertIs(left <= right, set(one) <= set(other))
                self.assertIs(left < right, set(one) < set(other))
                self.assertIs(left == right, set(one) == set(other))
                self.assertIs(left != right, set(one) != set(other))
        self.assertTrue(Lengths(2, 5) == Lengths(5, 2))
        self.assertTrue(Lengths(2) <= Lengths(2))
        self.assertFalse(Lengths(2) < Lengths(2))
        self.assertFalse(Lengths(2) < Lengths(3, 4))

    def test_in_place(self):
        made = kept = Lengths(2, 5)
        made |= Lengths(3)
        self.assertEqual(made.numbers, (2, 3, 5))
        made -= Lengths(2)
        self.assertEqual(made.numbers, (3, 5))
        made &= Lengths(5, 6)
        self.assertEqual(made.numbers, (5,))
        self.assertEqual(kept.numbers, (2, 5))

    def test_other_values(self):
        one = Lengths(2, 5)
        for value in other_values(is_lengths):
            for work in (lambda: one | value, lambda: one & value, lambda: one - value,
                         lambda: one <= value, lambda: one < value):
                self.refuses(BadLengths("lengths"), work)
            self.assertIs(one == value, False)
            self.assertIs(value == one, False)


class Texts(Case):

    def test_text(self):
        self.assertEqual([str(Lengths(5, 2)), str(Lengths(60)), str(Lengths(10, 9, 1))], ["2 5", "60", "1 9 10"])

    def test_read_what_was_written(self):
        for numbers in SETS:
            self.assertEqual(Lengths.read(str(Lengths(*numbers))).numbers, numbers)
        self.assertEqual(Lengths.read(text="3"), Lengths(3))

    def test_the_first_word_that_cannot_stand(self):
        for text, word in (("", 0), (" ", 0), (" 2", 0), ("2 ", 1), ("2  5", 1), ("2 5 ", 2), ("5 2", 1), ("5 5", 1),
                           ("2 5 4 9", 2), ("2 5 5", 2), ("0", 0), ("61", 0), ("2 61", 1), ("60 61", 1), ("02", 0),
                           ("2 05", 1), ("+2", 0), ("-2", 0), ("2.0", 0), ("2 a", 1), ("a 2", 0), ("2\n", 0),
                           ("2\n5", 0), ("2 5\n", 1), ("2 :", 1), (":", 0), ("2 3 : 4", 2), ("1 2;", 1),
                           ("9" * 5000, 0), ("1 " + "9" * 4900, 1), ("1 2 3 x 2", 3), ("1_0", 0), ("100", 0), ("\u0663", 0), ("2 \u00b2", 1)):
            self.refuses(BadText(0, word), Lengths.read, text)

    def test_what_is_no_string(self):
        for value in other_values(lambda value: isinstance(value, str)):
            self.refuses(BadText(0, 0), Lengths.read, value)


class Sums(Case):

    def test_against_a_plain_list(self):
        for numbers in SETS:
            made = Lengths(*numbers)
            sums = sums_up_to(numbers, 260)
            known = {number: True for number in sums}
            floor = 0
            for number in range(0, 200):
                floor = number if number in known else floor
                self.same(made.floor(number), floor)
                self.assertIs(made.has(number), number in known)
            ceiling = min(number for number in sums if number >= 199)
            for number in range(199, -1, -1):
                ceiling = number if number in known else ceiling
                self.same(made.ceiling(number), ceiling)

    def test_far_beyond_the_conductor(self):
        for numbers in SETS:
            made = Lengths(*numbers)
            divisor = gcd(*numbers)
            for number in (10 ** 60, 10 ** 60 + 1, 10 ** 59 + 59, 7 * 10 ** 30 - 1):
                self.same(made.floor(number), number - number % divisor)
                self.same(made.ceiling(number), number + -number % divisor)
                self.assertIs(made.has(number), number % divisor == 0)

    def test_below_zero(self):
        for numbers in SETS:
            made = Lengths(*numbers)
            for number in (-10 ** 60, -61, -2, -1, 0):
                self.same(made.ceiling(number), 0)
            for number in (-10 ** 60, -120, -60, -2, -1):
                self.assertIs(made.has(number), False)
                self.refuses(BadNumber(number), made.floor, number)
                self.refuses(NoSum(number), made.taken, number)

    def test_other_values(self):
        made = Lengths(1)
        for value in other_values(is_integer):
            self.refuses(BadNumber(value), made.floor, value)
            self.refuses(BadNumber(value), made.ceiling, value)
            self.refuses(NoSum(value), made.taken, value)
            self.assertIs(made.has(value), False)

    def test_names_of_parameters(self):
        made = Lengths(2, 5)
        self.assertEqual([made.floor(number=3), made.ceiling(number=3), made.has(number=3), made.taken(number=2)],
                         [2, 4, False, {2: 1}])

    def test_taken(self):
        for numbers in SETS:
            made = Lengths(*numbers)
            known = {number: True for number in sums_up_to(numbers, 150)}
            for number in list(range(151)) + [10 ** 60 * gcd(*numbers)]:
                if number in known or number > 150:
                    self.look(made, number)
                else:
                    self.refuses(NoSum(number), made.taken, number)
        self.assertEqual(Lengths(3).taken(0), {})

    def look(self, made, number):
        parts = made.taken(number)
        self.assertIs(type(parts), dict)
        for length, many in parts.items():
            self.assertIn(length, made)
            self.assertTrue(is_integer(many) and many >= 1)
        self.same(sum(length * many for length, many in parts.items()), number)
        self.assertEqual(Lengths(*made.numbers).taken(number), parts)

    def test_a_new_dict_each_time(self):
        made = Lengths(2, 5)
        first = made.taken(9)
        self.assertEqual(first, {2: 2, 5: 1})
        first[2] = 7
        first[60] = 1
        self.assertEqual(made.taken(9), {2: 2, 5: 1})
        self.assertIsNot(made.taken(9), made.taken(9))
        self.assertEqual(made.numbers, (2, 5))
