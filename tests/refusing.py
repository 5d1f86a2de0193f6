"""What the tests of refusals share."""

import unittest

from fieldrows.errors import FieldError, NoKind, NoLine, NoName, TooMuch

REFUSALS = (TooMuch, NoLine, NoName, NoKind)


class Refusing(unittest.TestCase):
    def refused(self, read, text, refusal=NoLine):
        """That read refuses the text with this refusal, and with no other one."""
        with self.subTest(refused=text[:60], refusal=refusal.__name__):
            with self.assertRaises(FieldError) as caught:
                read(text)
            self.assertIsInstance(caught.exception, refusal)
            self.assertIsInstance(caught.exception, ValueError)
            for other in REFUSALS:
                self.assertEqual(isinstance(caught.exception, other), other is refusal)
