"""[4]: names and numbers."""

import unittest

from fieldrows.words import is_name, read_number
from refusing import Refusing

KEPT = "def fn do empty get with put less tag wide case never if".split(" ")
BLANKS = (" ", "\n", "\t", "\r", "\x0b", "\x0c", "\u00a0", "\u2028", "\x85", "\x00")
STRANGE_LETTERS = (
    "\u00e9",  # e with an accent
    "\u0430",  # the Cyrillic letter that looks like a
    "\u03b1",  # the Greek alpha
    "\uff41",  # a wide a
    "\u00aa",  # a raised a
    "\u00df",  # the German sharp s
    "\u0131",  # an i without a dot
    "\U0001d41a",  # a bold a
    "a\u0301",  # an a with an accent behind it
    "\ud800",  # half of a sign
)
STRANGE_FIGURES = (
    "\u0661",  # the Arabic one
    "\u0967",  # the Devanagari one
    "\uff11",  # a wide one
    "\u00b9",  # a raised one
    "\u2460",  # a one in a ring
    "\u00bd",  # a half
    "\u2160",  # the Roman one
    "\U0001d7cf",  # a bold one
    "\ud800",  # half of a sign
)


class Names(unittest.TestCase):
    def named(self, text):
        with self.subTest(text=text):
            self.assertIs(is_name(text), True)

    def not_named(self, text):
        with self.subTest(text=text):
            self.assertIs(is_name(text), False)

    def test_each_letter_is_a_name(self):
        for letter in "abcdefghijklmnopqrstuvwxyz":
            self.named(letter)

    def test_each_length_from_one_to_eight(self):
        for length in range(1, 9):
            self.named("abcdefgz"[:length])
            self.named("z" * length)

    def test_no_letter(self):
        self.not_named("")

    def test_nine_letters_and_more(self):
        for length in (9, 10, 16, 100, 20000):
            self.not_named("a" * length)

    def test_kept_words(self):
        self.assertEqual(len(KEPT), 13)
        for word in KEPT:
            self.not_named(word)

    def test_kept_words_with_a_letter_more(self):
        for word in KEPT:
            self.named(word + "a")
            self.named("z" + word)

    def test_kept_words_with_a_letter_less(self):
        for word in KEPT:
            self.named(word[1:])
            self.named(word[:-1])

    def test_several_kept_words(self):
        self.named("iffn")
        self.not_named("if fn")
        self.not_named("")

    def test_words_of_tuples_and_answers_are_names(self):
        for word in ("num", "name", "main", "rec", "one", "fun", "var", "row", "use", "deep", "is", "where", "value"):
            self.named(word)

    def test_capital_letters(self):
        for text in ("A", "Z", "Ab", "aB", "aBc", "IF", "If", "Def"):
            self.not_named(text)

    def test_the_signs_beside_the_letters(self):
        for sign in "`{@[":
            self.not_named(sign)
            self.not_named("a" + sign)

    def test_other_signs(self):
        for sign in "0159_-+*<>.,;:'\"()|/\\!?#$%&=~^":
            for text in (sign, "a" + sign, sign + "a", "a" + sign + "b"):
                self.not_named(text)

    def test_blanks_and_line_ends(self):
        for blank in BLANKS:
            for text in (blank, "a" + blank, blank + "a", "a" + blank + "b"):
                self.not_named(text)

    def test_letters_that_are_not_plain(self):
        for letter in STRANGE_LETTERS:
            for text in (letter, "a" + letter, letter + "a", "a" + letter + "b"):
                self.not_named(text)


class Numbers(Refusing):
    def number(self, text, number):
        with self.subTest(text=text):
            self.assertEqual(read_number(text), number)
            self.assertIs(type(read_number(text)), int)

    def no_number(self, text):
        self.refused(read_number, text)

    def test_each_figure(self):
        for figure in range(10):
            self.number("0123456789"[figure], figure)

    def test_each_length_from_one_to_six(self):
        for text, number in (("7", 7), ("10", 10), ("987", 987), ("1000", 1000), ("12345", 12345), ("100000", 100000)):
            self.number(text, number)
        self.number("999999", 999999)
        self.number("123456", 123456)

    def test_no_figure(self):
        self.no_number("")

    def test_seven_figures_and_more(self):
        for text in ("1000000", "9999999", "1234567", "12345678", "1" * 100, "9" * 5000, "0" * 7):
            self.no_number(text)

    def test_nought(self):
        self.number("0", 0)

    def test_noughts_ahead(self):
        for text in ("00", "01", "007", "000000", "000001", "012345", "0100", "0000001"):
            self.no_number(text)

    def test_noughts_within_and_behind(self):
        for text, number in (("10", 10), ("101", 101), ("100001", 100001), ("500", 500)):
            self.number(text, number)

    def test_signs_in_ahead_and_behind(self):
        for sign in "+-_.,*<eExXaz/:'\"()%":
            for text in (sign, sign + "1", "1" + sign, "1" + sign + "2", sign + "0"):
                self.no_number(text)
        self.no_number("0x1")
        self.no_number("1e3")
        self.no_number("- 1")

    def test_blanks_and_line_ends(self):
        for blank in BLANKS:
            for text in (blank, "1" + blank, blank + "1", "1" + blank + "2"):
                self.no_number(text)

    def test_figures_that_are_not_plain(self):
        for figure in STRANGE_FIGURES:
            for text in (figure, "1" + figure, figure + "1", "1" + figure + "2"):
                self.no_number(text)

    def test_words(self):
        for text in ("a", "one", "empty", "num", "True", "None", *STRANGE_LETTERS):
            self.no_number(text)

    def test_numbers_are_no_names(self):
        for text in ("0", "1", "999999", "1000000", *STRANGE_FIGURES):
            self.assertIs(is_name(text), False)


if __name__ == "__main__":
    unittest.main()
