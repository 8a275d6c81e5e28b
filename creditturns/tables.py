"""The least sums of some lengths, one for each rest by the shortest of them."""

from math import gcd


def least_sums(numbers):
    """The rows and the last lengths of ascending numbers, two tuples.

    Each row is the least sum with this rest, or None; each last length ends this sum, and what is
    left ahead of it is the row of its own rest.  The shortest length is in no row's sum.
    """
    shortest = numbers[0]
    rows = [None for _ in range(shortest)]
    rows[0] = 0
    lasts = [None for _ in range(shortest)]
    for length in numbers[1:]:
        circles = gcd(length, shortest)
        for first in range(circles):
            rest = first
            # Each rest of a circle can get its row from the least one of it: two rounds reach them all.
            for _ in range(2 * (shortest // circles)):
                goal = (rest + length) % shortest
                if rows[rest] is not None and (rows[goal] is None or rows[rest] + length < rows[goal]):
                    rows[goal] = rows[rest] + length
                    lasts[goal] = length
                rest = goal
    return tuple(rows), tuple(lasts)
