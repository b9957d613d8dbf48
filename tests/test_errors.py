"""[3]: the errors."""

import unittest

from keptqubits import errors
from keptqubits.errors import KeptError

FIELDS = {
    "BadText": ("line", "column"),
    "BadNumber": ("what", "number"),
    "BadName": ("name",),
    "BadLot": ("lot",),
    "Unlike": ("what",),
    "TooMany": ("what", "many", "limit"),
    "Anticommute": ("one", "other"),
    "MinusOne": ("indices",),
    "BadGauge": ("index",),
    "BadHidden": ("index",),
    "Outside": ("string",),
    "NotOne": (),
    "NotARound": (),
    "HasFlag": (),
    "HasLook": (),
    "TakenName": ("name",),
    "NoName": ("name",),
    "NotKept": ("promise", "witness"),
    "NothingToUndo": (),
    "NothingToRedo": (),
}

VALUES = (0, -7, 10 ** 40, 1.5, True, None, "", "a text", b"bytes", (), (1, (2, "x")), [1, [2]], {"k": 1}, {3},
          object(), int, KeptError())


class ErrorsTest(unittest.TestCase):
    def test_these_errors_are_defined_here_and_no_others(self):
        found = {name for name, value in vars(errors).items() if isinstance(value, type)}
        self.assertEqual(found, set(FIELDS) | {"KeptError"})
        for name in found:
            self.assertEqual(getattr(errors, name).__module__, "keptqubits.errors")

    def test_fields_of_any_kind_stand_under_their_names_in_order(self):
        for name, fields in FIELDS.items():
            for start in range(len(VALUES)):
                values = [VALUES[(start + 5 * step) % len(VALUES)] for step in range(len(fields))]
                error = getattr(errors, name)(*values)
                self.assertEqual(tuple(vars(error)), fields)
                for field, value in zip(fields, values):
                    self.assertIs(getattr(error, field), value)

    def test_number_of_fields(self):
        for name, fields in FIELDS.items():
            if fields:
                with self.assertRaises(TypeError):
                    getattr(errors, name)(*range(len(fields) - 1))
                with self.assertRaises(TypeError):
                    getattr(errors, name)(*range(len(fields) + 1))

    def test_each_is_a_kept_error_and_a_value_error(self):
        for name, fields in FIELDS.items():
            kind = getattr(errors, name)
            self.assertEqual(kind.__bases__, (KeptError,))
            with self.assertRaises(KeptError) as caught:
                raise kind(*fields)
            self.assertIs(caught.exception.__class__, kind)
            self.assertIsInstance(caught.exception, ValueError)
        self.assertEqual(KeptError.__bases__, (ValueError,))

    def test_none_is_an_object_of_another_one(self):
        for name, fields in FIELDS.items():
            error = getattr(errors, name)(*fields)
            kinds = [other for other in FIELDS if isinstance(error, getattr(errors, other))]
            self.assertEqual(kinds, [name])
        self.assertFalse([other for other in FIELDS if isinstance(KeptError(), getattr(errors, other))])

    def test_errors_without_fields(self):
        for name in ("NotOne", "NotARound", "HasFlag", "HasLook", "NothingToUndo", "NothingToRedo"):
            error = getattr(errors, name)()
            self.assertEqual(vars(error), {})
            self.assertEqual(error.args, ())


if __name__ == "__main__":
    unittest.main()
