"""The interface, fieldrows/errors.py."""

import unittest

from fieldrows import errors
from fieldrows.errors import FieldError, NoKind, NoLine, NoName, TooMuch

REFUSALS = (TooMuch, NoLine, NoName, NoKind)


class ErrorClasses(unittest.TestCase):
    def test_field_error_stands_straight_under_value_error(self):
        self.assertEqual(FieldError.__bases__, (ValueError,))

    def test_each_refusal_stands_straight_under_field_error(self):
        for refusal in REFUSALS:
            with self.subTest(refusal=refusal):
                self.assertEqual(refusal.__bases__, (FieldError,))

    def test_no_refusal_takes_another_one(self):
        for one in REFUSALS:
            for other in REFUSALS:
                with self.subTest(one=one, other=other):
                    self.assertEqual(issubclass(one, other), one is other)

    def test_they_bear_their_names(self):
        for name in ("FieldError", "TooMuch", "NoLine", "NoName", "NoKind"):
            self.assertEqual(getattr(errors, name).__name__, name)


if __name__ == "__main__":
    unittest.main()
