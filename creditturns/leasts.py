"""The tables of least sums, which show what is a sum and what is none."""

from creditturns.checks import is_integer
from creditturns.lengths import check_lengths
from creditturns.tables import least_sums


class Leasts:
    """A paper: the least sum for each rest by the shortest length, and the parts of each."""

    def __init__(self, rows, parts):
        self.rows = rows
        self.parts = parts

    def __eq__(self, other):
        return isinstance(other, Leasts) and self.rows == other.rows and self.parts == other.parts


def leasts(lengths):
    """The Leasts of some Lengths."""
    check_lengths(lengths)
    rows = least_sums(lengths.numbers)[0]
    parts = [None if row is None else lengths.taken(row) for row in rows]
    return Leasts(rows, tuple(parts))


def shows_leasts(lengths, value):
    """Whether any value is a right Leasts, seen without a search: a closed table is the least one."""
    check_lengths(lengths)
    if not isinstance(value, Leasts) or not has_places(lengths, value.rows) or not has_places(lengths, value.parts):
        return False
    if not all([is_row(lengths, rest, value.rows[rest], value.parts[rest]) for rest in range(lengths.shortest)]):
        return False
    return value.rows[0] == 0 and all([is_closed(lengths, value.rows, row) for row in value.rows])


def has_places(lengths, value):
    """Whether any value is a tuple with a place for each rest."""
    return isinstance(value, tuple) and len(value) == lengths.shortest


def is_row(lengths, rest, row, parts):
    """Whether two values are a sum with this rest and its parts, or None and None."""
    if row is None:
        return parts is None
    if not is_integer(row) or row % lengths.shortest != rest or not is_parts(lengths, parts):
        return False
    return row == bits_of(parts)


def bits_of(parts):
    """The sum of lengths, each taken as many times as a dict tells."""
    return sum([length * many for length, many in parts.items()])


def is_parts(lengths, value):
    """Whether any value is a dict from lengths to integers from 1 on."""
    if not isinstance(value, dict):
        return False
    return all([length in lengths and is_integer(many) and many > 0 for length, many in value.items()])


def is_closed(lengths, rows, row):
    """Whether no length more makes of a row a sum that is below the row of its rest."""
    if row is None:
        return True
    goals = [row + length for length in lengths]
    places = [rows[goal % lengths.shortest] for goal in goals]
    return all([place is not None and place <= goal for place, goal in zip(places, goals)])
