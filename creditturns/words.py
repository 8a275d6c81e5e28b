"""Texts are read word by word; the first word that cannot stand is told by its index."""

from creditturns.checks import is_name
from creditturns.errors import BadText


def is_figures(word):
    """Whether a word is an integer from 0 on, as str writes it."""
    return word.isascii() and word.isdigit() and (word == "0" or word[0] != "0")


def tells_number(word, least, most):
    """Whether a word is an integer from least to most."""
    # Python refuses to read very long integers: the number of figures is looked at first.
    return is_figures(word) and len(word) <= len(str(most)) and least <= int(word) <= most


def check_text(text):
    if not isinstance(text, str):
        raise BadText(0, 0)


class Words:
    """The words of a line of a text, or of a part of one, which are taken one behind another.

    start is the index of the first one in the whole line, line that of the line.
    """

    def __init__(self, words, start, line):
        self._words = list(words)
        self._start = start
        self._line = line
        self._at = 0

    def is_over(self):
        return self._at == len(self._words)

    def refuse(self):
        """Tell the next word, or the number of the words if none is left."""
        raise BadText(self._line, self._start + self._at)

    def refuse_last(self):
        """Tell the last word that has been taken."""
        raise BadText(self._line, self._start + self._at - 1)

    def is_next(self, mark):
        return not self.is_over() and self._words[self._at] == mark

    def take_mark(self, mark):
        if not self.is_next(mark):
            self.refuse()
        self._at += 1

    def take_one_of(self, marks):
        """The next word, which must be one of these."""
        if self.is_over() or self._words[self._at] not in marks:
            self.refuse()
        self._at += 1
        return self._words[self._at - 1]

    def take_name(self, ahead):
        """The next word, which must be a name that is greater than the one ahead."""
        if self.is_over() or not is_name(self._words[self._at]) or self._words[self._at] <= ahead:
            self.refuse()
        self._at += 1
        return self._words[self._at - 1]

    def take_number(self, least, most):
        """The integer from least to most that the next word tells."""
        if self.is_over() or not tells_number(self._words[self._at], least, most):
            self.refuse()
        self._at += 1
        return int(self._words[self._at - 1])

    def take_end(self):
        if not self.is_over():
            self.refuse()


def words_of(text, line=0):
    """The Words of any value that is a string, a line of a text; they are parted at each space."""
    check_text(text)
    return Words(text.split(" "), 0, line)


def parts_of(text, line=0):
    """A list of Words, one for each part of a text or a line of it; a semicolon ends a word and its part."""
    check_text(text)
    parts = []
    words = []
    start = 0
    for at, word in enumerate(text.split(" ")):
        words.append(word.removesuffix(";"))
        if word.endswith(";"):
            parts.append(Words(words, start, line))
            words = []
            start = at + 1
    parts.append(Words(words, start, line))
    return parts
