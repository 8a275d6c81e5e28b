"""The least service of a flow that waits."""

from creditturns.waits import check_place, ticks_of_others


def until(link, name, bits):
    """The greatest number of ticks in which a flow that waits can have got no more bits than this."""
    check_place(link, name, bits)
    flow = link[name]
    # The least of q turns, the ceiling of qQ - L + 1, is at most these bits exactly if their floor is not below it.
    turns = (flow.lengths.floor(bits) + flow.longest - 1) // flow.quantum
    return bits + ticks_of_others(link, name, turns + 1)


def service(link, name, ticks):
    """The least number of bits that a flow that waits can have got in so many ticks."""
    check_place(link, name, ticks)
    low, high = 0, ticks
    while low < high:
        middle = (low + high) // 2
        if until(link, name, middle) < ticks:
            low = middle + 1
        else:
            high = middle
    return low
