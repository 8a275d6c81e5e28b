"""Lists that only grow at their end, and can be kept as they were without a copy."""


class Journal:
    """Rows in their order; twins share the list of the rows as long as only one of them writes on."""

    def __init__(self):
        self._rows = []
        self._many = 0

    def twin(self):
        """A Journal with the same rows that goes its own way."""
        other = Journal()
        other._rows = self._rows
        other._many = self._many
        return other

    def write(self, row):
        # Rows behind the own ones belong to a twin that has gone on; they stay as they are.
        if len(self._rows) > self._many:
            self._rows = self._rows[:self._many]
        self._rows.append(row)
        self._many += 1

    def last(self):
        return self._rows[self._many - 1]

    def written(self):
        """A new list of the rows."""
        return self._rows[:self._many]
