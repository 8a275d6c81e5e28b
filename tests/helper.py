"""What the tests share: any values, a look at errors, and sums told by a plain list."""

import unittest

from creditturns.aparts import Apart, Widest
from creditturns.buckets import Bucket
from creditturns.chosen import Chosen, Roomy
from creditturns.compared import Harm, Later
from creditturns.delays import Delay, Growing
from creditturns.desk import Desk
from creditturns.errors import BadName, Grows
from creditturns.flows import Fed, Flow
from creditturns.gates import Gate, Promise
from creditturns.keeps import Lead
from creditturns.leasts import Leasts
from creditturns.lengths import Lengths
from creditturns.lines import Line
from creditturns.links import Link
from creditturns.lookers import Looker
from creditturns.mosts import Least, Most
from creditturns.plays import Arrival, Play, Sent, Turn
from creditturns.ratios import Ratio
from creditturns.told import Clash, Quanta
from creditturns.waits import Latest
from creditturns.worsts import Worst


def any_values():
    """Values of all kinds, made anew; those of a kind that is meant are sorted out by the test."""
    return [
        None, True, False, 0, 1, 2, 3, 5, 60, 61, -1, -60, 1000, 1001, 10 ** 12, 10 ** 12 + 1, 10 ** 60, -10 ** 60,
        "", " ", "a", "b", "z", "aa", "A", "a ", " a", "a\n", "0", "1", "2", "-1", "2 5", "a 1 : 1", "gap 1",
        "abcdefgh", "abcdefghi", "a1", "1/2", "x" * 5000, "1" * 5000, "\n", ";", ":", "lengths", "None", "True",
        (), (1,), (1, 1), (0, 1), (1, 2, 3), ((0, 1),), (None,), ("a",), ((((((((),),),),),),),),
        [], [1], [0, 1], [1, 2], ["a"], [None], [[1]], [(0, 1)], list(range(3000)),
        {}, {1: 1}, {"a": 1}, {1: {}}, {(1, 2): [3]}, {None: None},
        Ratio(0), Ratio(1), Ratio(5), Ratio(1, 2), Lengths(1), Lengths(2, 5), Lengths(60),
        Leasts((0,), ({},)), Leasts(None, []), Bucket(1, 1, 1), Bucket(60, 1, 6),
        Flow("a", 1, Lengths(1)), Fed("a", 1, Lengths(1), Bucket(1, 1, 1)), Link(1), Link(1, Flow("a", 1, Lengths(1))),
        Play(Link(1), []), Arrival(0, "a", 1), Turn("a", 0, 0, (), 0, True), Sent("a", 0, 1, 0, 1, 1, 1),
        Line(Link(1)), Lead(0, ()), Most(0, 0, {}), Least(0, 0, {}), Latest(1, 1, {}),
        Worst(None, 7), Delay(7, 7), Growing(7, 7, 7, 7), Apart(7, 7, Ratio(7)), Widest(None, 7, 7),
        Later(7, 7, 7), Harm(7, 7, 7), Promise("a", 1, 1), Gate(1), Chosen(7, 7, None), Roomy(7, None, None),
        Quanta(7, None, None, None), Clash(None, None), Looker(Link(1)), Desk(),
        BadName("a"), Grows(),
    ]


def is_integer(value):
    return isinstance(value, int) and not isinstance(value, bool)


def is_from(value, least, most):
    return is_integer(value) and least <= value <= most


def is_name(value):
    return isinstance(value, str) and 1 <= len(value) <= 8 and all("a" <= letter <= "z" for letter in value)


def other_values(is_meant):
    """All values for which is_meant does not hold."""
    return [value for value in any_values() if not is_meant(value)]


def sums_up_to(numbers, most):
    """The ascending list of all sums of some lengths up to a number, told by adding alone."""
    found = [0]
    for number in range(1, most + 1):
        if any(number - length in found[-max(numbers):] for length in numbers):
            found.append(number)
    return found


class Case(unittest.TestCase):
    """A test case that looks at errors whole: at their very class and at all of their fields."""

    def refuses(self, expected, work, *rows, **more):
        with self.assertRaises(type(expected)) as caught:
            work(*rows, **more)
        self.assertIs(type(caught.exception), type(expected))
        told, meant = vars(caught.exception), vars(expected)
        self.assertEqual(told, meant)
        for name in meant:
            self.assertIs(type(told[name]), type(meant[name]))
        return caught.exception

    def keeps_any_values(self, made, fields):
        """A paper keeps the very values that it is made of, by position and by name."""
        for value in any_values():
            values = [value] + [[field] for field in fields[1:]]
            for paper in (made(*values), made(**dict(zip(fields, values)))):
                for field, kept in zip(fields, values):
                    self.assertIs(getattr(paper, field), kept)

    def compares_as_a_paper(self, made, fields):
        """A paper equals those of its class with attributes that Python finds equal, and nothing else."""
        values = list(range(len(fields)))
        self.assertIs(made(*values) == made(*values), True)
        self.assertIs(made(*values) != made(*values), False)
        self.assertTrue(made(*values) == made(*[Ratio(value) for value in values]))
        self.assertTrue(made(False, True, *values[2:]) == made(*values))
        for at in range(len(fields)):
            others = values[:at] + ["other"] + values[at + 1:]
            self.assertIs(made(*values) == made(*others), False)
            self.assertIs(made(*values) != made(*others), True)
        for value in any_values():
            self.assertIs(made(*values) == value, False)
            self.assertIs(value == made(*values), False)

    def same(self, one, other):
        """Equal, and of one kind, so that True is not taken for 1."""
        self.assertEqual(one, other)
        self.assertIs(type(one), type(other))
