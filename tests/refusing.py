"""What the tests of reading share."""

import unittest

from fieldrows.errors import FieldError, NoKind, NoLine, NoName, TooMuch


class Refusing(unittest.TestCase):
    def refused(self, read, text):
        """That read refuses the text with NoLine, and with no other refusal."""
        with self.subTest(refused=text[:60]):
            with self.assertRaises(NoLine) as caught:
                read(text)
            self.assertIsInstance(caught.exception, FieldError)
            self.assertIsInstance(caught.exception, ValueError)
            self.assertNotIsInstance(caught.exception, (TooMuch, NoName, NoKind))
