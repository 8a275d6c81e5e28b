"""Readers that tell of a text only what is wrong in it first, word by word, in the order of the document."""

import re

from creditturns.errors import BadText
from creditturns.flows import Flow
from creditturns.links import Link
from creditturns.waits import latest

WIDE = 10 ** 60 - 1


def is_number(word, least, most):
    return re.fullmatch("0|[1-9][0-9]{0,99}", word, re.ASCII) is not None and least <= int(word) <= most


def is_name(word):
    return re.fullmatch("[a-z]{1,8}", word, re.ASCII) is not None


def first_wrong(words, looks):
    """The index of the first word for which its look fails, of one too many or a missing one; None if there is none."""
    for at, look in enumerate(looks):
        if at == len(words) or not look(words[at]):
            return at
    return len(looks) if len(words) > len(looks) else None


def word_of(read, text):
    """The word that a reader of one line tells, None if it reads the line."""
    try:
        read(text)
    except BadText as caught:
        return caught.word
    return None


def wrong_in_play(text):
    """The line and the word of what is wrong first, None if the text is one of a play."""
    lines = [line.split(" ") for line in text.split("\n")]
    wrong = first_wrong(lines[0], [lambda word: word == "play"])
    if wrong is not None:
        return 0, wrong
    if len(lines) == 1:
        return 1, 0
    wrong = word_of(Link.read, " ".join(lines[1]))
    if wrong is not None:
        return 1, wrong
    link = Link.read(" ".join(lines[1]))
    ahead = 0
    for at, words in enumerate(lines[2:]):
        wrong = first_wrong(words, [lambda word: at < 300 and is_number(word, ahead, 10 ** 12), lambda word: word in link,
                                    lambda word: is_number(word, 1, 60) and int(word) in link[words[1]].lengths])
        if wrong is not None:
            return at + 2, wrong
        ahead = int(words[0])
    return None


def wrong_in_turns(text):
    lines = [line.split(" ") for line in text.split("\n")]
    wrong = first_wrong(lines[0], [lambda word: word == "turns"])
    if wrong is not None:
        return 0, wrong
    ahead = -1
    for at, words in enumerate(lines[1:]):
        looks = [is_name, lambda word: is_number(word, ahead + 1, WIDE), lambda word: is_number(word, 0, 59),
                 lambda word: is_number(word, 0, 59), lambda word: word in ("kept", "left")]
        looks += [lambda word: is_number(word, 1, 60) for _ in words[5:]]
        wrong = first_wrong(words, looks)
        if wrong is not None:
            return at + 1, wrong
        ahead = int(words[1])
    return None


def wrong_in_gate(text):
    lines = [line.split(" ") for line in text.split("\n")]
    wrong = first_wrong(lines[0], [lambda word: word == "gate", lambda word: is_number(word, 1, 1000000)])
    if wrong is not None:
        return 0, wrong
    flows, promises = [], []
    for at, words in enumerate(lines[1:]):
        if promises or (words[0] == "promise" and not (len(words) > 2 and words[2] == ":")):
            wrong = wrong_in_promise(words, Link(int(lines[0][1]), *flows), promises)
            promises.append(words)
        else:
            wrong = wrong_in_flow(words, flows)
            if wrong is None:
                flows.append(Flow.read(" ".join(words)))
        if wrong is not None:
            return at + 1, wrong
    return None


def wrong_in_flow(words, flows):
    if not is_name(words[0]) or len(flows) == 6 or (flows and words[0] <= flows[-1].name):
        return 0
    return word_of(Flow.read, " ".join(words))


def wrong_in_promise(words, link, promises):
    name, bits, ticks = promises[-1][1:] if promises else ("", "0", "0")

    def fits(word):
        if not is_number(word, 0, WIDE) or int(word) < latest(link, words[1], int(words[2])).ticks:
            return False
        return (words[1], int(words[2])) != (name, int(bits)) or int(word) > int(ticks)

    return first_wrong(words, [lambda word: word == "promise", lambda word: word in link and word >= name,
                               lambda word: is_number(word, 1, WIDE) and link[words[1]].lengths.has(int(word))
                               and (words[1] != name or int(word) >= int(bits)), fits])


# What is put into texts: words of all kinds, and the marks of their forms.
WORDS = ("", "play", "turns", "gate", "promise", "kept", "left", "gap", ":", "a", "b", "c", "d", "z", "0", "1", "2", "3", "4",
         "6", "9", "12", "59", "60", "61", "300", "1;", "3;", "01", "-1", "+1", "x1", "A", "1000001", "1" * 60, "1" * 61,
         str(10 ** 12), str(10 ** 12 + 1), "abcdefghi", "\t", ";")


def changed(told, rows):
    """Rows of words with something put in, left out, exchanged, moved or told twice: words, or whole lines."""
    rows = [list(row) for row in rows]
    for _ in range(told.randrange(1, 4)):
        if not rows:
            return [[told.choice(WORDS)]]
        change(told, told.choice(rows) if told.randrange(4) else rows)
        rows = [row if isinstance(row, list) else [row] for row in rows]
    return rows


def change(told, items):
    way, at = told.randrange(5), told.randrange(len(items)) if items else 0
    if way == 0 or not items:
        items.insert(at, told.choice(WORDS))
    elif way == 1:
        del items[at]
    elif way == 2:
        items[at] = told.choice(WORDS)
    elif way == 3:
        items.insert(told.randrange(len(items)), items.pop(at))
    else:
        items.insert(at, items[at] if not isinstance(items[at], list) else list(items[at]))


def drawn_texts(told, text, times):
    """Texts that differ in some words or lines."""
    for _ in range(times):
        yield "\n".join(" ".join(row) for row in changed(told, [line.split(" ") for line in text.split("\n")]))


