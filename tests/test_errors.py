"""[5]: the errors."""

import unittest

from pointingreads import errors
from tests.helpers import ODD

FIELDS = {
    "BadRow": ("place",), "BadPlace": ("place",), "BadMark": ("mark",), "BadSorts": ("value",),
    "BadReader": ("word", "stand"), "BadSieve": ("word",), "NotLooker": ("row",),
    "BadChange": ("word",), "BadRule": ("word",), "BadNumber": ("value",), "BadPaper": ("word",),
    "BadText": ("line", "column"), "BadName": ("name",), "NotSteady": (), "NothingBack": (),
    "TooGreat": ("most",),
}


class ErrorsTest(unittest.TestCase):
    def test_all_stand_directly_below_one(self):
        self.assertEqual(errors.ReadError.__bases__, (ValueError,))
        self.assertEqual(len(FIELDS), 16)
        for name in FIELDS:
            self.assertEqual(getattr(errors, name).__bases__, (errors.ReadError,), name)
            self.assertEqual(getattr(errors, name).__module__, "pointingreads.errors", name)

    def test_fields_by_place_and_by_name(self):
        for name, fields in FIELDS.items():
            made = getattr(errors, name)
            for value in (None, 3, "word", ODD, [1], (2, 3)):
                values = [value] * len(fields)
                for error in (made(*values), made(**dict(zip(fields, values)))):
                    self.assertIsInstance(error, ValueError)
                    for field in fields:
                        self.assertIs(getattr(error, field), value)

    def test_two_fields_are_kept_apart(self):
        error = errors.BadReader("held", 3)
        self.assertEqual((error.word, error.stand), ("held", 3))
        error = errors.BadText(line=1, column=2)
        self.assertEqual((error.line, error.column), (1, 2))

    def test_raised_and_caught(self):
        with self.assertRaises(errors.ReadError):
            raise errors.TooGreat(60)
        with self.assertRaises(ValueError):
            raise errors.NotSteady()

    def test_fields_are_asked(self):
        for name, fields in FIELDS.items():
            if fields:
                with self.assertRaises(TypeError):
                    getattr(errors, name)()


if __name__ == "__main__":
    unittest.main()
