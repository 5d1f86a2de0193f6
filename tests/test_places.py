"""[6]: the places of an expression."""

import copy
import unittest

from fieldrows.places import places
from fieldrows.words import read_expression

# A text and the texts of its places, in their order.
CASES = (
    ("5", ["5"]),
    ("a", ["a"]),
    ("empty", ["empty"]),
    ("fn x 1", ["fn x 1", "1"]),
    ("do f 1", ["do f 1", "f", "1"]),
    ("get l r", ["get l r", "r"]),
    ("with l e r", ["with l e r", "e", "r"]),
    ("put l e r", ["put l e r", "e", "r"]),
    ("less l r", ["less l r", "r"]),
    ("tag l e", ["tag l e", "e"]),
    ("wide l e", ["wide l e", "e"]),
    ("case e l x g y h", ["case e l x g y h", "e", "g", "h"]),
    ("never e", ["never e", "e"]),
    ("if e g h", ["if e g h", "e", "g", "h"]),
    ("+ 1 2", ["+ 1 2", "1", "2"]),
    ("- 1 2", ["- 1 2", "1", "2"]),
    ("* 1 2", ["* 1 2", "1", "2"]),
    ("< 1 2", ["< 1 2", "1", "2"]),
    # What stands in the first part comes ahead of the second part.
    ("+ + 1 2 + 3 4", ["+ + 1 2 + 3 4", "+ 1 2", "1", "2", "+ 3 4", "3", "4"]),
    ("do fn x x 1", ["do fn x x 1", "fn x x", "x", "1"]),
    (
        "case tag a 1 a x + x 2 y never y",
        ["case tag a 1 a x + x 2 y never y", "tag a 1", "1", "+ x 2", "x", "2", "never y", "y"],
    ),
    (
        "if < 1 2 put a 3 r with b 4 empty",
        ["if < 1 2 put a 3 r with b 4 empty", "< 1 2", "1", "2", "put a 3 r", "3", "r", "with b 4 empty", "4", "empty"],
    ),
    # The same expression is a place as often as it stands there.
    ("+ a a", ["+ a a", "a", "a"]),
    ("+ * a a * a a", ["+ * a a * a a", "* a a", "a", "a", "* a a", "a", "a"]),
    # Labels and bound names are no places, whatever they are called.
    ("fn num get name num", ["fn num get name num", "get name num", "num"]),
)


def told(texts):
    return [read_expression(text) for text in texts]


class Places(unittest.TestCase):
    def test_each_kind_in_order(self):
        for text, texts in CASES:
            with self.subTest(text=text):
                self.assertEqual(places(read_expression(text)), told(texts))

    def test_place_0_is_the_expression(self):
        for text, _ in CASES:
            self.assertEqual(places(read_expression(text))[0], read_expression(text))

    def test_deep_ones(self):
        for ahead in ("fn x ", "get l ", "less l ", "tag l ", "wide l ", "never "):
            texts = [ahead * depth + "a" for depth in range(30, -1, -1)]
            self.assertEqual(places(read_expression(texts[0])), told(texts))

    def test_deep_in_the_last_part(self):
        texts = ["7"]
        for _ in range(30):
            texts = ["+ 1 " + texts[0], "1"] + texts
        self.assertEqual(places(read_expression(texts[0])), told(texts))

    def test_deep_in_the_first_part(self):
        texts = ["7"]
        for number in range(30):
            texts = [f"- {texts[0]} {number}"] + texts + [str(number)]
        self.assertEqual(places(read_expression(texts[0])), told(texts))

    def test_deeper_than_may_be_read(self):
        expression = ("empty",)
        wanted = [expression]
        for _ in range(100):
            expression = ("never", expression)
            wanted = [expression] + wanted
        self.assertEqual(places(expression), wanted)

    def test_wide_ones(self):
        texts = ["0"]
        for _ in range(7):
            texts = [f"< {texts[0]} {texts[0]}"] + texts + texts
        self.assertEqual(len(texts), 255)
        self.assertEqual(places(read_expression(texts[0])), told(texts))

    def test_wide_in_three_parts(self):
        texts = ["c"]
        for _ in range(4):
            texts = [f"case {texts[0]} l x {texts[0]} y {texts[0]}"] + texts + texts + texts
        self.assertEqual(len(texts), 121)
        self.assertEqual(places(read_expression(texts[0])), told(texts))

    def test_a_list_of_tuples(self):
        for text, _ in CASES:
            found = places(read_expression(text))
            self.assertIs(type(found), list)
            for place in found:
                self.assertIs(type(place), tuple)


class TheListIsTheAskers(unittest.TestCase):
    def test_a_new_one_each_time(self):
        for text, _ in CASES:
            expression = read_expression(text)
            self.assertEqual(places(expression), places(expression))
            self.assertIsNot(places(expression), places(expression))

    def test_changing_it_changes_nothing(self):
        for text, texts in CASES:
            with self.subTest(text=text):
                expression = read_expression(text)
                before = copy.deepcopy(expression)
                first = places(expression)
                second = places(expression)
                first.reverse()
                first.append("more")
                first[0] = None
                self.assertEqual(second, told(texts))
                second.clear()
                self.assertEqual(places(expression), told(texts))
                self.assertEqual(expression, before)


if __name__ == "__main__":
    unittest.main()
