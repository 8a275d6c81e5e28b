"""creditturns.ratios: exact fractions."""

from fractions import Fraction
from math import gcd

from creditturns.errors import BadRatio, BadText
from creditturns.lengths import Lengths
from creditturns.ratios import Ratio
from tests.helper import Case, any_values, is_integer, other_values

NUMBERS = [(top, bottom) for top in range(-7, 8) for bottom in (-4, -3, -1, 1, 2, 6)]
LARGE = [(10 ** 60, 3), (-10 ** 60 - 1, 10 ** 59), (7, 10 ** 60)]
RATIOS = [Ratio(top, bottom) for top, bottom in NUMBERS + LARGE]
INTEGERS = [-10 ** 60, -6, -2, -1, 0, 1, 2, 5, 10 ** 60]


def plain(value):
    return Fraction(value.top, value.bottom) if isinstance(value, Ratio) else Fraction(value)


def is_operand(value):
    return is_integer(value) or isinstance(value, Ratio)


OPERATIONS = {
    "+": lambda one, other: one + other,
    "-": lambda one, other: one - other,
    "*": lambda one, other: one * other,
}
WHOLE = {"//": lambda one, other: one // other, "%": lambda one, other: one % other}
ORDERS = {
    "<": lambda one, other: one < other,
    "<=": lambda one, other: one <= other,
    ">": lambda one, other: one > other,
    ">=": lambda one, other: one >= other,
}


def pairs():
    """Pairs of operands of which at least one is a Ratio."""
    for one in RATIOS:
        for other in RATIOS[::5] + INTEGERS:
            yield one, other
            yield other, one


class Making(Case):

    def test_lowest_terms_with_any_signs(self):
        for top, bottom in NUMBERS + LARGE:
            one = Ratio(top, bottom)
            self.assertEqual(Fraction(one.top, one.bottom), Fraction(top, bottom))
            self.assertEqual(gcd(one.top, one.bottom), 1)
            self.assertGreater(one.bottom, 0)
            self.same(one.top, Fraction(top, bottom).numerator)
            self.same(one.bottom, Fraction(top, bottom).denominator)

    def test_zero(self):
        self.assertEqual((Ratio(0, -9).top, Ratio(0, -9).bottom), (0, 1))

    def test_the_bottom_is_one_if_it_is_not_told(self):
        for top in INTEGERS:
            self.assertEqual((Ratio(top).top, Ratio(top).bottom), (top, 1))

    def test_names_of_parameters(self):
        one = Ratio(bottom=-4, top=6)
        self.assertEqual((one.top, one.bottom), (-3, 2))
        self.assertEqual(Ratio(top=3).bottom, 1)

    def test_wrong_values(self):
        for value in other_values(is_integer):
            self.refuses(BadRatio("top"), Ratio, value)
            self.refuses(BadRatio("top"), Ratio, value, 2)
            self.refuses(BadRatio("bottom"), Ratio, 2, value)
        self.refuses(BadRatio("bottom"), Ratio, 2, 0)

    def test_the_top_is_told_first(self):
        self.refuses(BadRatio("top"), Ratio, "1", 0)
        self.refuses(BadRatio("top"), Ratio, True, None)


class Operators(Case):

    def look(self, found, expected):
        self.assertIsInstance(found, Ratio)
        self.assertEqual((found.top, found.bottom), (expected.numerator, expected.denominator))

    def test_sums_differences_and_products_are_ratios(self):
        for one, other in pairs():
            for work in OPERATIONS.values():
                self.look(work(one, other), work(plain(one), plain(other)))

    def test_whole_times_and_what_is_left(self):
        for one, other in pairs():
            if plain(other) > 0:
                self.same(one // other, plain(one) // plain(other))
                self.look(one % other, plain(one) % plain(other))

    def test_the_right_one_must_be_above_zero(self):
        for one, other in pairs():
            if plain(other) <= 0:
                for work in WHOLE.values():
                    self.refuses(BadRatio("other"), work, one, other)

    def test_in_place(self):
        one = kept = Ratio(1, 2)
        one += 1
        self.look(one, Fraction(3, 2))
        one -= Ratio(1, 3)
        self.look(one, Fraction(7, 6))
        one *= 9
        self.look(one, Fraction(21, 2))
        one %= 4
        self.look(one, Fraction(5, 2))
        one //= Ratio(1, 2)
        self.same(one, 5)
        self.look(kept, Fraction(1, 2))
        number = 3
        number -= Ratio(1, 2)
        self.look(number, Fraction(5, 2))

    def test_other_operands(self):
        for value in other_values(is_operand):
            for word, work in {**OPERATIONS, **WHOLE}.items():
                self.refuses(BadRatio("other"), work, Ratio(1, 2), value)
                self.refuses(BadRatio("other"), work, Ratio(0), value)
                if not isinstance(value, Lengths) and not (word == "%" and isinstance(value, str)):
                    if word != "-" or type(value).__name__ != "Link":
                        self.refuses(BadRatio("other"), work, value, Ratio(1, 2))

    def test_a_string_on_the_left_of_the_percent_sign_is_pythons_own(self):
        with self.assertRaises(TypeError):
            "a" % Ratio(1, 2)

    def test_minus_and_abs(self):
        for one in RATIOS:
            self.look(-one, -plain(one))
            self.look(abs(one), abs(plain(one)))

    def test_bool(self):
        for one in RATIOS:
            self.assertIs(bool(one), plain(one) != 0)

    def test_over(self):
        for one in RATIOS:
            for other in RATIOS + INTEGERS:
                if plain(other) != 0:
                    self.look(one.over(other), plain(one) / plain(other))
                else:
                    self.refuses(BadRatio("other"), one.over, other)
        self.look(Ratio(1).over(other=3), Fraction(1, 3))
        for value in other_values(is_operand):
            self.refuses(BadRatio("other"), Ratio(1).over, value)

    def test_ceiling(self):
        for one in RATIOS:
            self.same(one.ceiling(), -(-one.top // one.bottom))
            self.assertTrue(one.ceiling() - 1 < plain(one) <= one.ceiling())


class Orders(Case):

    def test_orders(self):
        for one, other in pairs():
            for work in ORDERS.values():
                self.assertIs(work(one, other), work(plain(one), plain(other)))

    def test_other_values(self):
        for value in other_values(is_operand):
            for work in ORDERS.values():
                self.refuses(BadRatio("other"), work, Ratio(1), value)
                if type(value).__module__ == "builtins":
                    self.refuses(BadRatio("other"), work, value, Ratio(1))

    def test_equality(self):
        for one, other in pairs():
            self.assertIs(one == other, plain(one) == plain(other))
            self.assertIs(one != other, plain(one) != plain(other))
        self.assertTrue(5 == Ratio(10, 2))
        self.assertFalse(2 == Ratio(5, 2))

    def test_no_other_value_is_equal(self):
        for value in other_values(is_operand):
            for one in (Ratio(0), Ratio(1), Ratio(1, 2)):
                self.assertIs(one == value, False)
                self.assertIs(value == one, False)
                self.assertIs(one != value, True)


class Texts(Case):

    def test_text(self):
        told = [str(Ratio(5)), str(Ratio(-4, 6)), str(Ratio(0)), str(Ratio(3, -1)), str(Ratio(7, 3))]
        self.assertEqual(told, ["5", "-2/3", "0", "-3", "7/3"])

    def test_read_what_was_written(self):
        for one in RATIOS:
            found = Ratio.read(str(one))
            self.assertIsInstance(found, Ratio)
            self.assertEqual((found.top, found.bottom), (one.top, one.bottom))
        self.assertEqual(Ratio.read(text="-2/3"), Ratio(-2, 3))

    def test_many_figures(self):
        text = "-" + "7" * 4000 + "/" + "9" * 3999 + "8"
        found = Ratio.read(text)
        self.assertEqual((found.top, found.bottom), (-int("7" * 4000), int("9" * 3999 + "8")))
        self.assertEqual(str(found), text)
        self.refuses(BadText(0, 0), Ratio.read, "7" * 4001)
        self.refuses(BadText(0, 0), Ratio.read, "1/" + "7" * 4001)
        self.refuses(BadText(0, 0), Ratio.read, "7" * 5000)

    def test_texts_that_are_nearly_right(self):
        for text in ("", "-", "/", "1/", "/2", "-/2", "2/4", "4/2", "0/1", "0/5", "5/1", "1/0", "0/0", "-0", "-0/3",
                     "+1", "01", "1/02", "00", "1/-2", "-1/-2", "--1", "1//2", "1/2/3", "1/2/", " 1", "1 ", "1 /2",
                     "1/ 2", "1\n", "1_0", "1.0", "0x1", "1e3", "a", "one", "\u0663", "\u00b2", "1/\u0663", "1/a", "-a/2", "1-", "1-/2"):
            self.refuses(BadText(0, 0), Ratio.read, text)

    def test_values_that_are_no_texts(self):
        for value in any_values():
            if value not in ("0", "1", "2", "-1", "1/2") or not isinstance(value, str):
                self.refuses(BadText(0, 0), Ratio.read, value)
