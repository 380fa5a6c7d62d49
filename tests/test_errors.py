"""[20]: the errors."""

import copy
import unittest

from factflows import errors

FIELDS = {
    "Wrong": ["place"], "BadJoin": ["which"], "NoRise": ["name", "low", "high"], "NoStatement": ["name"],
    "NoPlace": ["place"], "Unreached": ["place"], "Unlike": [], "TooMany": ["limit"], "Absent": ["value"],
    "Full": ["limit"], "NoDeed": [], "Nothing": [], "Refused": ["deed"], "NoEntry": ["at"], "NoText": [],
    "NoCommand": [],
}


class ErrorsTest(unittest.TestCase):
    def test_there_are_sixteen_directly_under_one(self):
        self.assertEqual(len(FIELDS), 16)
        self.assertEqual(errors.FlowError.__bases__, (ValueError,))
        for name in FIELDS:
            self.assertEqual(getattr(errors, name).__bases__, (errors.FlowError,), name)
        classes = [thing for thing in vars(errors).values() if isinstance(thing, type)]
        self.assertEqual(sorted(thing.__name__ for thing in classes), sorted([*FIELDS, "FlowError"]))

    def test_fields_are_the_very_objects(self):
        for name, fields in FIELDS.items():
            for make in (object, list, dict, lambda: (None, [1]), lambda: ValueError("x")):
                things = [make() for _ in fields]
                error = getattr(errors, name)(*things)
                for field, thing in zip(fields, things):
                    self.assertIs(getattr(error, field), thing)
                self.assertEqual(sorted(vars(error)), sorted(fields))

    def test_fields_are_not_copied(self):
        thing = [1, [2]]
        error = errors.Refused(thing)
        thing[1].append(3)
        self.assertEqual(error.deed, [1, [2, 3]])

    def test_as_many_arguments_as_fields(self):
        for name, fields in FIELDS.items():
            with self.assertRaises(TypeError):
                getattr(errors, name)(*range(len(fields) + 1))
            if fields:
                with self.assertRaises(TypeError):
                    getattr(errors, name)(*range(len(fields) - 1))

    def test_each_is_caught_as_itself_and_as_those_above_only(self):
        for name, fields in FIELDS.items():
            error = getattr(errors, name)(*fields)
            self.assertIsInstance(error, errors.FlowError)
            self.assertIsInstance(error, ValueError)
            for other in FIELDS:
                self.assertEqual(isinstance(error, getattr(errors, other)), other == name)

    def test_can_be_raised_shown_and_copied(self):
        for name, fields in FIELDS.items():
            made = getattr(errors, name)(*fields)
            with self.assertRaises(errors.FlowError) as caught:
                raise made
            self.assertIs(caught.exception, made)
            self.assertIsInstance(str(made), str)
            self.assertEqual(vars(copy.copy(made)), vars(made))


if __name__ == "__main__":
    unittest.main()
