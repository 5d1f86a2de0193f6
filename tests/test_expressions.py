"""[5]: expressions, as tuples and as words."""

import copy
import unittest

from fieldrows.words import read_expression, shown_expression
from refusing import Refusing

ONE = ("num", 1)
A = ("name", "a")

EXPRESSIONS = (
    ("0", ("num", 0)),
    ("7", ("num", 7)),
    ("999999", ("num", 999999)),
    ("x", ("name", "x")),
    ("abcdefgh", ("name", "abcdefgh")),
    ("num", ("name", "num")),
    ("name", ("name", "name")),
    ("empty", ("empty",)),
    ("fn x x", ("fn", "x", ("name", "x"))),
    ("do f 1", ("do", ("name", "f"), ("num", 1))),
    ("get l r", ("get", "l", ("name", "r"))),
    ("with l 1 empty", ("with", "l", ("num", 1), ("empty",))),
    ("put l 2 r", ("put", "l", ("num", 2), ("name", "r"))),
    ("less l r", ("less", "l", ("name", "r"))),
    ("tag l 3", ("tag", "l", ("num", 3))),
    ("wide l c", ("wide", "l", ("name", "c"))),
    ("case c l x 1 y 2", ("case", ("name", "c"), "l", "x", ("num", 1), "y", ("num", 2))),
    ("never c", ("never", ("name", "c"))),
    ("if 0 1 2", ("if", ("num", 0), ("num", 1), ("num", 2))),
    ("+ 1 2", ("+", ("num", 1), ("num", 2))),
    ("- 1 2", ("-", ("num", 1), ("num", 2))),
    ("* 1 2", ("*", ("num", 1), ("num", 2))),
    ("< 1 2", ("<", ("num", 1), ("num", 2))),
    # Expressions within expressions, and names that are words of the tuples.
    ("fn num num", ("fn", "num", ("name", "num"))),
    ("get name name", ("get", "name", ("name", "name"))),
    ("do fn x + x 1 2", ("do", ("fn", "x", ("+", ("name", "x"), ONE)), ("num", 2))),
    ("with a 1 with b 2 empty", ("with", "a", ONE, ("with", "b", ("num", 2), ("empty",)))),
    ("with a with b 1 empty r", ("with", "a", ("with", "b", ONE, ("empty",)), ("name", "r"))),
    ("put a get b r less c r", ("put", "a", ("get", "b", ("name", "r")), ("less", "c", ("name", "r")))),
    (
        "case tag a 1 a x + x 1 y never y",
        ("case", ("tag", "a", ONE), "a", "x", ("+", ("name", "x"), ONE), "y", ("never", ("name", "y"))),
    ),
    (
        "case c a x case x b y 1 z 2 w case w d u 3 v 4",
        (
            "case",
            ("name", "c"),
            "a",
            "x",
            ("case", ("name", "x"), "b", "y", ONE, "z", ("num", 2)),
            "w",
            ("case", ("name", "w"), "d", "u", ("num", 3), "v", ("num", 4)),
        ),
    ),
    ("if < 1 2 - 3 4 * 5 6", ("if", ("<", ONE, ("num", 2)), ("-", ("num", 3), ("num", 4)), ("*", ("num", 5), ("num", 6)))),
    ("wide a wide b tag c empty", ("wide", "a", ("wide", "b", ("tag", "c", ("empty",))))),
)

# A text for each part of each expression that is an expression, which stands at the @.
PARTS = (
    "fn x @",
    "do @ a",
    "do a @",
    "get l @",
    "with l @ a",
    "with l a @",
    "put l @ a",
    "put l a @",
    "less l @",
    "tag l @",
    "wide l @",
    "case @ l x a y a",
    "case a l x @ y a",
    "case a l x a y @",
    "never @",
    "if @ a a",
    "if a @ a",
    "if a a @",
    "+ @ a",
    "+ a @",
    "- @ a",
    "- a @",
    "* @ a",
    "* a @",
    "< @ a",
    "< a @",
)

# A text for each part that is a name, which stands at the @.
NAMES = (
    "fn @ a",
    "get @ a",
    "with @ a a",
    "put @ a a",
    "less @ a",
    "tag @ a",
    "wide @ a",
    "case a @ x a y a",
    "case a l @ a y a",
    "case a l x a @ a",
)

NO_NAMES = (
    *"def fn do empty get with put less tag wide case never if".split(" "),
    *"0 1 999999 + - * < A aB a1 _ abcdefghi".split(" "),
    "\u00e9",
    "",
)


def deep(part, inmost, depth):
    """The text of the inmost within as many of the part as the depth tells."""
    text = inmost
    for _ in range(depth):
        text = part.replace("@", text)
    return text


def depth_of(expression):
    inner = [depth_of(part) for part in expression if isinstance(part, tuple)]
    return 1 + max(inner) if inner else 0


class ReadAndShown(unittest.TestCase):
    def test_each_kind_is_read(self):
        for text, expression in EXPRESSIONS:
            with self.subTest(text=text):
                self.assertEqual(read_expression(text), expression)

    def test_numbers_are_read_as_whole_numbers_and_names_as_texts(self):
        for text, kind in (("0", int), ("1", int), ("a", str)):
            self.assertIs(type(read_expression(text)[1]), kind)

    def test_each_kind_is_shown(self):
        for text, expression in EXPRESSIONS:
            with self.subTest(text=text):
                self.assertEqual(shown_expression(expression), text)

    def test_each_name_that_it_takes(self):
        for part in NAMES:
            for name in ("a", "abcdefgh", "iff", "de", "num", "name"):
                text = part.replace("@", name)
                with self.subTest(text=text):
                    self.assertIn(name, read_expression(text))
                    self.assertEqual(shown_expression(read_expression(text)), text)

    def test_long_ones(self):
        text = "a"
        while len(text) < 9000:
            text = f"+ {text} {text}"
        self.assertEqual(shown_expression(read_expression(text)), text)

    def test_asked_again_it_answers_the_same(self):
        for text, expression in EXPRESSIONS:
            with self.subTest(text=text):
                self.assertEqual(read_expression(text), read_expression(text))
                self.assertEqual(shown_expression(expression), shown_expression(expression))

    def test_a_refusal_between_changes_no_answer(self):
        for text, expression in EXPRESSIONS:
            with self.assertRaises(ValueError):
                read_expression(text + " a")
            self.assertEqual(read_expression(text), expression)

    def test_what_is_shown_is_not_changed(self):
        for _, expression in EXPRESSIONS:
            before = copy.deepcopy(expression)
            shown_expression(expression)
            self.assertEqual(expression, before)

    def test_what_is_deeper_or_larger_is_still_shown(self):
        for depth in (31, 40, 100):
            expression = A
            for _ in range(depth):
                expression = ("never", expression)
            self.assertEqual(shown_expression(expression), "never " * depth + "a")
        self.assertEqual(shown_expression(("num", 1000000)), "1000000")
        self.assertEqual(shown_expression(("name", "abcdefghi")), "abcdefghi")


class Refused(Refusing):
    def no_expression(self, text):
        self.refused(read_expression, text)

    def test_names_that_are_none(self):
        for part in NAMES:
            for word in NO_NAMES:
                self.no_expression(part.replace("@", word))

    def test_words_that_are_no_expression(self):
        for word in ("def", "A", "aB", "a1", "abcdefghi", "1000000", "01", "00", "-1", "+1", "_", "@", "#", "(a)", "++", "=",
                     ">", "/", "\u00e9", "\u0661", "\uff11", "\ud800", "\x00"):
            self.no_expression(word)
            for part in PARTS:
                self.no_expression(part.replace("@", word))

    def test_too_few_words(self):
        for text, _ in EXPRESSIONS:
            words = text.split(" ")
            for many in range(1, len(words)):
                self.no_expression(" ".join(words[:many]))

    def test_an_expression_is_wanting(self):
        for part in PARTS:
            self.no_expression(part.replace(" @", "", 1))

    def test_a_name_is_wanting(self):
        for part in NAMES:
            self.no_expression(part.replace(" @", "", 1))

    def test_too_many_words(self):
        for text, _ in EXPRESSIONS:
            for more in ("a", "1", "empty", "fn", "def", "never a"):
                self.no_expression(text + " " + more)

    def test_two_expressions(self):
        for text, _ in EXPRESSIONS:
            self.no_expression("a " + text)
            self.no_expression("1 " + text)

    def test_a_def_is_no_expression(self):
        self.no_expression("def a 1")

    def test_no_word(self):
        self.no_expression("")
        self.no_expression(" ")
        self.no_expression("  ")

    def test_a_blank_ahead_or_behind(self):
        for text, _ in EXPRESSIONS:
            self.no_expression(" " + text)
            self.no_expression(text + " ")

    def test_two_blanks(self):
        for text, _ in EXPRESSIONS:
            for at, sign in enumerate(text):
                if sign == " ":
                    self.no_expression(text[:at] + " " + text[at:])

    def test_line_ends_tabs_and_other_blanks(self):
        for blank in ("\n", "\t", "\r", "\r\n", "\x0b", "\x0c", "\u00a0", "\u2003", "\u2028", "\x85", "\x00"):
            self.no_expression(blank)
            for text, _ in EXPRESSIONS:
                self.no_expression(blank + text)
                self.no_expression(text + blank)
                self.no_expression(text + " " + blank)
                if " " in text:
                    self.no_expression(text.replace(" ", blank, 1))
                    self.no_expression(text.replace(" ", " " + blank, 1))

    def test_words_without_a_blank_between(self):
        for text in ("+1 2", "+ 12", "-12", "fnx x", "never1", "1a", "a1"):
            self.no_expression(text)


class Depth(Refusing):
    def test_thirty_deep_is_read_in_each_part(self):
        for part in PARTS:
            for inmost in ("a", "1", "empty"):
                text = deep(part, inmost, 30)
                with self.subTest(text=text[:60]):
                    expression = read_expression(text)
                    self.assertEqual(depth_of(expression), 30)
                    self.assertEqual(shown_expression(expression), text)

    def test_thirty_one_deep_is_refused_in_each_part(self):
        for part in PARTS:
            for inmost in ("a", "1", "empty"):
                self.refused(read_expression, deep(part, inmost, 31))

    def test_one_part_of_each_kind_above_a_deep_one(self):
        for part in PARTS:
            for below in ("never @", "+ a @", "if a @ a"):
                read = read_expression(part.replace("@", deep(below, "a", 29)))
                self.assertEqual(depth_of(read), 30)
                self.refused(read_expression, part.replace("@", deep(below, "a", 30)))

    def test_one_part_of_each_kind_below_others(self):
        for part in PARTS:
            read = read_expression(deep("fn x @", part.replace("@", "a"), 29))
            self.assertEqual(depth_of(read), 30)
            self.refused(read_expression, deep("fn x @", part.replace("@", "a"), 30))

    def test_the_deepest_part_counts(self):
        chain = deep("tag l @", "a", 29)
        self.assertEqual(depth_of(read_expression(f"+ {chain} {chain}")), 30)
        self.assertEqual(depth_of(read_expression(f"do a {chain}")), 30)
        self.refused(read_expression, f"+ a tag l {chain}")
        self.refused(read_expression, f"+ tag l {chain} a")

    def test_a_deep_part_does_not_weigh_on_those_behind_it(self):
        chain = deep("less l @", "a", 28)
        text = f"if {chain} {chain} + {chain} {chain}"
        self.assertEqual(shown_expression(read_expression(text)), text)

    def test_very_deep_texts_are_refused(self):
        for part in PARTS:
            ahead = part.partition("@")[0]
            self.refused(read_expression, ahead * (20000 // len(ahead)))
            self.refused(read_expression, ahead * (19000 // len(ahead)) + "a")


if __name__ == "__main__":
    unittest.main()
