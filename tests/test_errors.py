"""Point 2 and the errors of the interface."""

import unittest

from ownwake import errors
from ownwake.errors import WakeError

FIELDS = {
    "InvalidSchema": ("part",),
    "InvalidDatabase": ("part",),
    "InvalidStatement": ("part",),
    "InvalidPlan": ("part",),
    "InvalidText": ("line",),
    "InvalidLine": ("line",),
    "Duplicate": ("column", "value"),
    "NoTable": ("name",),
    "NoRow": ("name", "number"),
    "Idle": ("hand",),
    "Unsound": ("plan_data",),
    "NoChain": ("plan_data",),
    "Empty": (),
}
CLASSES = {name: getattr(errors, name) for name in FIELDS}
VALUES = ["a", 7, None, True, ("t", 1), [1, [2]], {"k": ()}]


class Errors(unittest.TestCase):
    def test_there_are_just_these(self):
        found = {name for name, thing in vars(errors).items() if isinstance(thing, type)}
        self.assertEqual(found, set(FIELDS) | {"WakeError"})

    def test_each_is_directly_under_the_common_one(self):
        self.assertEqual(WakeError.__bases__, (ValueError,))
        for name, made in CLASSES.items():
            self.assertEqual(made.__bases__, (WakeError,), name)

    def test_fields_by_position_and_by_name(self):
        for name, fields in FIELDS.items():
            for shift in range(len(VALUES)):
                values = [VALUES[(shift + at) % len(VALUES)] for at in range(len(fields))]
                for error in (CLASSES[name](*values), CLASSES[name](**dict(zip(fields, values)))):
                    self.assertEqual({field: getattr(error, field) for field in fields}, dict(zip(fields, values)))
                    for field, value in zip(fields, values):
                        self.assertIs(getattr(error, field), value)

    def test_too_few_and_too_many_fields(self):
        for name, fields in FIELDS.items():
            if fields:
                with self.assertRaises(TypeError):
                    CLASSES[name](*["a"] * (len(fields) - 1))
                with self.assertRaises(TypeError):
                    CLASSES[name](*["a"] * (len(fields) + 1))

    def test_none_is_one_of_the_others(self):
        for name, fields in FIELDS.items():
            error = CLASSES[name](*["a"] * len(fields))
            self.assertIsInstance(error, WakeError)
            self.assertIsInstance(error, ValueError)
            others = [other for other, made in CLASSES.items() if isinstance(error, made)]
            self.assertEqual(others, [name])
            self.assertNotIsInstance(WakeError(), CLASSES[name])

    def test_they_are_caught_as_the_common_one(self):
        for name, fields in FIELDS.items():
            with self.assertRaises(WakeError):
                raise CLASSES[name](*["a"] * len(fields))


if __name__ == "__main__":
    unittest.main()
