"""The classes of refusals: which is under which, and their fields."""

import unittest

from keptclauses import errors

UNDER_KEPT = [
    "NoMeeting", "NoRows", "NoClauses", "NotKept", "NotLean", "NoMachine", "NoWires", "NoDeeds", "NoText",
    "NoClause", "NoSigns", "NoStand", "NoWord", "NoRun", "NoWish", "NoPromises", "NoChange", "NoLine",
]
APART = {
    "NoNumber": ArithmeticError,
    "TooMany": OverflowError,
    "NoGate": IndexError,
    "NoBox": IndexError,
    "NoName": KeyError,
    "NoKept": LookupError,
}
FIELDS = {
    "NoMeeting": ("thing",),
    "NoRows": ("number",),
    "NoClauses": ("number",),
    "NotKept": ("failing",),
    "NotLean": ("number", "sign"),
    "NoMachine": ("part", "number"),
    "NoWires": ("part",),
    "NoDeeds": ("number",),
    "NoText": ("row",),
    "TooMany": ("size",),
}
OF_A_TEXT = [
    "NoClause", "NoSigns", "NoStand", "NoWord", "NoRun", "NoWish", "NoPromises", "NoChange", "NoLine",
    "NoNumber", "NoGate", "NoBox", "NoName", "NoKept",
]


def named(name):
    return getattr(errors, name)


class TestErrors(unittest.TestCase):
    def test_kept_error_is_straight_under_value_error(self):
        self.assertEqual(errors.KeptError.__bases__, (ValueError,))

    def test_each_is_straight_under_the_class_that_is_told(self):
        for name in UNDER_KEPT:
            self.assertEqual(named(name).__bases__, (errors.KeptError,), name)
        for name, base in APART.items():
            self.assertEqual(named(name).__bases__, (base,), name)

    def test_none_is_under_another_one(self):
        names = UNDER_KEPT + list(APART)
        for one in names:
            for other in names:
                self.assertEqual(issubclass(named(one), named(other)), one == other, (one, other))

    def test_those_apart_are_no_kept_errors(self):
        for name in APART:
            self.assertFalse(issubclass(named(name), errors.KeptError), name)
            self.assertFalse(issubclass(named(name), ValueError), name)
            self.assertFalse(issubclass(errors.KeptError, named(name)), name)

    def test_every_class_is_among_those_of_which_one_is_made_here(self):
        self.assertEqual(sorted(UNDER_KEPT + list(APART)), sorted(list(FIELDS) + OF_A_TEXT))

    def test_fields_are_what_was_handed_in(self):
        for name, fields in FIELDS.items():
            told = [object() for field in fields]
            by_place = named(name)(*told)
            by_name = named(name)(**dict(zip(fields, told)))
            for field, value in zip(fields, told):
                self.assertIs(getattr(by_place, field), value, (name, field))
                self.assertIs(getattr(by_name, field), value, (name, field))

    def test_fields_may_be_none(self):
        for name, fields in FIELDS.items():
            made = named(name)(*[None for field in fields])
            for field in fields:
                self.assertIsNone(getattr(made, field))

    def test_those_made_of_a_text_are_raised_and_caught_as_told(self):
        for name in OF_A_TEXT:
            with self.assertRaises(APART.get(name, errors.KeptError)) as caught:
                raise named(name)("words")
            self.assertIsInstance(caught.exception, named(name))

    def test_those_with_fields_are_raised_and_caught_as_told(self):
        for name, fields in FIELDS.items():
            with self.assertRaises(APART.get(name, errors.KeptError)) as caught:
                raise named(name)(*fields)
            self.assertIsInstance(caught.exception, named(name))


if __name__ == "__main__":
    unittest.main()
