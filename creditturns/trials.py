"""Blocks behind which an object is as it was ahead of them."""


class Trial:
    """A block for an object whose _state is never changed, only exchanged, and whose _past lists its deeds."""

    def __init__(self, held):
        self._held = held
        self._state = None
        self._past = None

    def __enter__(self):
        held = self._held
        self._state = held._state
        self._past = held._past
        # The deeds of the block go to a list of their own.
        held._past = list(self._past)
        return held

    def __exit__(self, *told):
        held = self._held
        held._state = self._state
        held._past = self._past
