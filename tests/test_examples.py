"""The examples of the document, as they stand, in its order; each file holds those of a section."""

import os
import unittest

from creditturns import errors

FOLDER = os.path.join(os.path.dirname(os.path.abspath(__file__)), "examples")


def steps_of(text):
    """Pairs of an example line and the line that tells what comes of it, None if none does."""
    rows = text.splitlines()
    for at, row in enumerate(rows):
        if row.startswith(">>> "):
            told = rows[at + 1] if at + 1 < len(rows) else ">>> "
            yield row[4:], None if told.startswith(">>> ") else told


class Examples(unittest.TestCase):

    def test_all_examples(self):
        names = {}
        files = sorted(os.listdir(FOLDER))
        self.assertEqual([name[3:-4] for name in files],
                         ["ratios", "lengths", "leasts", "buckets", "flows", "links", "plays", "lines", "keeps",
                          "mosts", "worsts", "services", "delays", "gates", "lookers", "texts", "desk"])
        for name in files:
            with open(os.path.join(FOLDER, name), encoding="ascii") as file:
                steps = list(steps_of(file.read()))
            self.assertTrue(steps)
            for code, told in steps:
                with self.subTest(file=name, code=code):
                    self.look(code, told, names)

    def look(self, code, told, names):
        if told is None:
            exec(code, names)
        elif told.startswith("raises "):
            self.look_at_error(code, told.removeprefix("raises "), names)
        else:
            self.assertEqual(repr(eval(code, names)), told)

    def look_at_error(self, code, told, names):
        with self.assertRaises(Exception) as caught:
            exec(code, names)
        self.assertEqual(type(caught.exception).__name__, told.split("(")[0])
        if "(" in told:
            self.assertEqual(vars(caught.exception), vars(eval(told, dict(vars(errors)))))
