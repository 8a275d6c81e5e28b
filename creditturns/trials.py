"""Deeds that can be taken back, and blocks behind which an object is as it was ahead of them.

The objects have a _state that is never changed, only exchanged, and in _past a list of their deeds: pairs of a
word and the _state ahead of it.
"""

from creditturns.errors import NoDeed


class Trial:
    """A block behind which an object is as it was when the block began."""

    def __init__(self, held):
        self._held = held
        self._state = None
        self._past = None

    def __enter__(self):
        held = self._held
        self._state = held._state
        self._past = held._past
        # The deeds of the block go to a list of their own.
        held._past = list(self._past)
        return held

    def __exit__(self, *told):
        held = self._held
        held._state = self._state
        held._past = self._past


def write_deed(held, word, state):
    """A deed is done: from now on the object stands as it left it."""
    held._past.append((word, held._state))
    held._state = state


def take_back(held):
    """Take back the last deed; its word."""
    if len(held._past) == 0:
        raise NoDeed()
    word, state = held._past.pop()
    held._state = state
    return word


def try_work(held, work):
    """What work returns for an object, which then is as ahead of it."""
    with Trial(held) as same:
        return work(same)


def attempt_work(held, work):
    """What work returns for an object, which is as ahead of it if an error leaves it."""
    state = held._state
    past = list(held._past)
    done = None
    try:
        answer = work(held)
        done = True
    finally:
        if done is None:
            held._state = state
            held._past = past
    return answer
