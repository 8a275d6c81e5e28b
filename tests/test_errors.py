"""creditturns.errors: the classes, where they stand, and their fields."""

from creditturns import errors
from creditturns.errors import BadInput, CreditError, NoAnswer, Refused
from tests.helper import Case, any_values

BAD_INPUT = {
    "BadArrivals": ["at"], "BadBucket": ["part"], "BadFlow": ["part"], "BadGap": ["value"], "BadGate": ["part"],
    "BadLengths": ["part"], "BadLine": ["word"], "BadLink": ["part"], "BadName": ["value"], "BadNumber": ["value"],
    "BadPlay": ["part"], "BadPromise": ["part"], "BadQuantum": ["value"], "BadRatio": ["part"],
    "BadText": ["line", "word"], "BadTurns": ["at"],
}
REFUSED = {"Broken": ["promise"], "Known": ["name"], "NoFlow": ["name"], "TooMany": ["what", "most"],
           "Waiting": ["name"]}
NO_ANSWER = {"Grows": [], "Late": ["ticks"], "NoCredit": ["number"], "NoDeed": [], "NoQuantum": [],
             "NoSum": ["number"], "Round": ["paper"]}
ALL = {**BAD_INPUT, **REFUSED, **NO_ANSWER}


class Classes(Case):

    def test_the_base_stands_below_value_error(self):
        self.assertEqual(CreditError.__bases__, (ValueError,))

    def test_three_classes_stand_directly_below_the_base_and_no_others(self):
        self.assertEqual({one.__name__ for one in CreditError.__subclasses__()}, {"BadInput", "Refused", "NoAnswer"})
        for one in (BadInput, Refused, NoAnswer):
            self.assertEqual(one.__bases__, (CreditError,))

    def test_each_class_stands_directly_below_its_group(self):
        for group, table in ((BadInput, BAD_INPUT), (Refused, REFUSED), (NoAnswer, NO_ANSWER)):
            self.assertEqual({one.__name__ for one in group.__subclasses__()}, set(table))
            for name in table:
                self.assertEqual(getattr(errors, name).__bases__, (group,))
                self.assertEqual(getattr(errors, name).__module__, "creditturns.errors")

    def test_none_stands_below_another_one_or_another_class_of_python(self):
        for name in ALL:
            self.assertEqual(getattr(errors, name).__subclasses__(), [])
            self.assertEqual(len(getattr(errors, name).__mro__), 7)


class Fields(Case):

    def look(self, error, fields, values):
        self.assertEqual(list(vars(error)), fields)
        for field, value in zip(fields, values):
            self.assertIs(getattr(error, field), value)

    def test_any_values_by_position_and_by_name(self):
        for name, fields in ALL.items():
            made = getattr(errors, name)
            for value in any_values():
                values = [value, [value]][:len(fields)]
                self.look(made(*values), fields, values)
                self.look(made(**dict(zip(fields, values))), fields, values)

    def test_each_field_is_told(self):
        for name, fields in ALL.items():
            if fields:
                with self.assertRaises(TypeError):
                    getattr(errors, name)()
            with self.assertRaises(TypeError):
                getattr(errors, name)(**{field: 1 for field in [*fields, "further"]})

    def test_they_are_raised_and_caught_as_value_errors(self):
        for name, fields in ALL.items():
            with self.assertRaises(ValueError) as caught:
                raise getattr(errors, name)(*fields)
            self.look(caught.exception, fields, fields)
