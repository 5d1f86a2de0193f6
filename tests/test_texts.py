"""[7], [8]: programs and their texts."""

import copy
import itertools
import random
import unittest

from fieldrows.errors import FieldError, NoLine, NoName, TooMuch
from fieldrows.places import places
from fieldrows.texts import read, shown
from fieldrows.words import read_expression
from refusing import Refusing

LETTERS = "abcdefghijkl"


def lines_of(many):
    """So many lines without a fault, the last one main."""
    return [f"def {LETTERS[k]} + {k} {LETTERS[k]}" for k in range(many - 1)] + ["def main fn x x"]


def text_of(lines):
    return "\n".join(lines)


def changed(lines, at, line):
    return text_of(lines[:at] + [line] + lines[at + 1:])


def tree(leaves, leaf):
    """The words of a working with so many leaves, as shallow as may be: twice as many places less one."""
    if leaves == 1:
        return leaf
    return f"+ {tree(leaves // 2, leaf)} {tree(leaves - leaves // 2, leaf)}"


def sized(many, leaf="1"):
    """The words of an expression with so many places."""
    if many % 2 == 0:
        return f"tag l {sized(many - 1, leaf)}"
    return tree((many + 1) // 2, leaf)


PROGRAMS = (
    ("def main 0", [("main", ("num", 0))]),
    ("def main main", [("main", ("name", "main"))]),
    ("def main empty", [("main", ("empty",))]),
    ("def main fn x x", [("main", ("fn", "x", ("name", "x")))]),
    ("def a 1\ndef main a", [("a", ("num", 1)), ("main", ("name", "a"))]),
    (
        "def main case tag l 1 l x x y never y",
        [("main", ("case", ("tag", "l", ("num", 1)), "l", "x", ("name", "x"), "y", ("never", ("name", "y"))))],
    ),
    (
        "def id fn x x\ndef two do id 2\ndef main with a two with id id empty",
        [
            ("id", ("fn", "x", ("name", "x"))),
            ("two", ("do", ("name", "id"), ("num", 2))),
            ("main", ("with", "a", ("name", "two"), ("with", "id", ("name", "id"), ("empty",)))),
        ],
    ),
    # Names that are words of tuples, or all but kept words.
    ("def num 1\ndef name num\ndef main + num name", [
        ("num", ("num", 1)),
        ("name", ("name", "num")),
        ("main", ("+", ("name", "num"), ("name", "name"))),
    ]),
    ("def defs 1\ndef main defs", [("defs", ("num", 1)), ("main", ("name", "defs"))]),
)

# One line each, as a program's last one behind defs called f and g.
KNOWN = (
    # Bound by fn: in its expression, at any depth, by the innermost.
    "fn x x",
    "fn x fn y do x y",
    "fn x fn x x",
    "fn x with l x put l fn y + x y empty",
    "do fn x x fn x x",
    # Bound by case, in its first way and in its second.
    "case tag l 1 l x x y 1",
    "case tag l 1 l x 1 y y",
    "case tag l 1 l x x x x",
    "case tag l 1 l x case x l z + x z y do x y y y",
    "case tag l 1 l x 1 y case y m z do y z w do y w",
    "fn z case z l x do x z y do y z",
    "case case tag l 1 l x x y y l x x y y",
    # Names of defs above and of the def itself.
    "f",
    "g",
    "main",
    "do f g",
    "fn x do f do g do main x",
    "case f l x do g x y do main y",
    "if < f g - f g * main main",
    # Labels and bound names that are called like defs, or like nothing else.
    "get f with f 1 empty",
    "tag main wide g tag unknown 1",
    "less f put g 1 g",
    "fn f f",
    "fn main main",
    "fn g fn f do f g",
    "case tag f 1 f g g f f",
    "case tag main 1 main main main g main",
    "fn x get x with x x empty",
)

# One line each, as a program's last one behind defs called f and g, in which a name is open.
OPEN = (
    "x",
    "mai",
    "mainn",
    "ff",
    "l",
    "fn x y",
    "fn x do x y",
    "do fn x x x",
    "do x fn x x",
    "with l fn x x x",
    "with l x fn x x",
    "+ fn x x x",
    "if fn x x x 1",
    "if 1 fn x x x",
    "if x 1 fn x x",
    "put l fn x x x",
    # Not bound in what case looks at, nor in the other way.
    "case x l x 1 y 1",
    "case y l x 1 y 1",
    "case tag l 1 l x y y 1",
    "case tag l 1 l x 1 y x",
    "case l l x 1 y 1",
    "case tag l 1 l x l y 1",
    "case tag l 1 l x 1 y l",
    "do case tag l 1 l x x y y x",
    "do case tag l 1 l x x y y y",
    "case tag l 1 l x case x l z 1 w z y 1",
    "case tag l 1 l x case z l z 1 w 1 y 1",
    # Labels bind nothing.
    "get l l",
    "with l l empty",
    "with l 1 l",
    "put l 1 l",
    "less l l",
    "tag l l",
    "wide l l",
    "with l 1 get l l",
    # Each part of each expression.
    "fn z x",
    "do x 1",
    "do 1 x",
    "get l x",
    "with l x empty",
    "with l 1 x",
    "put l x empty",
    "put l 1 x",
    "less l x",
    "tag l x",
    "wide l x",
    "never x",
    "if x 1 1",
    "if 1 x 1",
    "if 1 1 x",
    "+ x 1",
    "+ 1 x",
    "- x 1",
    "- 1 x",
    "* x 1",
    "* 1 x",
    "< x 1",
    "< 1 x",
)

# Lines that are no def, whatever stands above them.
NO_LINES = (
    "",
    " ",
    "def",
    "def ",
    "def main",
    "def main ",
    "main 1",
    "main",
    "1",
    "Def main 1",
    "DEF main 1",
    "defs main 1",
    "fn main 1",
    "def def 1",
    "def fn 1",
    "def if 1",
    "def Main 1",
    "def mainmainm 1",
    "def 1 1",
    "def main1 1",
    "def + 1",
    "def main def",
    "def main 1 2",
    "def main + 1",
    "def main + 1 2 3",
    "def main get l",
    "def main get if main",
    "def main 01",
    "def main 1000000",
    "def main def main 1",
    " def main 1",
    "def main 1 ",
    "def  main 1",
    "def main  1",
    "def main + 1  2",
    "  def main 1",
    "\tdef main 1",
    "def\tmain 1",
    "def main\t1",
    "def main 1\t",
    "def main 1\r",
    "\rdef main 1",
    "def main 1\x0b",
    "def main 1\x0c",
    "def main\u00a01",
    "def main 1\u2028",
    "def main 1\x85",
    "def main 1\x1c",
    "def main 1\x00",
    "\ufeffdef main 1",
    "def m\u00e4in 1",
    "def main \u0661",
    "def main \ud800",
    "def main (1)",
    "def main = 1",
    "def main: 1",
    "# def main 1",
    "def main " + "never " * 31 + "1",
    "def main " + "tag l " * 1000 + "1",
)


class ReadAndShown(unittest.TestCase):
    def test_programs_are_read(self):
        for text, program in PROGRAMS:
            with self.subTest(text=text):
                self.assertEqual(read(text), program)

    def test_programs_are_shown(self):
        for text, program in PROGRAMS:
            with self.subTest(text=text):
                self.assertEqual(shown(program), text)

    def test_a_list_of_tuples_of_a_text_and_an_expression(self):
        for text, _ in PROGRAMS:
            program = read(text)
            self.assertIs(type(program), list)
            for define in program:
                self.assertIs(type(define), tuple)
                self.assertEqual([type(part) for part in define], [str, tuple])

    def test_one_to_twelve_defs(self):
        for many in range(1, 13):
            with self.subTest(many=many):
                text = text_of(lines_of(many))
                program = read(text)
                self.assertEqual(len(program), many)
                self.assertEqual([name for name, _ in program], [*LETTERS[:many - 1], "main"])
                self.assertEqual(shown(program), text)

    def test_what_stands_in_a_def_is_what_its_words_tell(self):
        for words in KNOWN:
            program = read(f"def f 1\ndef g 2\ndef main {words}")
            self.assertEqual(program[2], ("main", read_expression(words)))

    def test_eighty_places_are_read_in_each_line(self):
        for many in (1, 2, 3, 79, 80):
            words = sized(many)
            self.assertEqual(len(places(read_expression(words))), many)
            for at, name in ((0, "a"), (5, "f"), (11, "main")):
                text = changed(lines_of(12), at, f"def {name} {words}")
                self.assertEqual(shown(read(text)), text)

    def test_eighty_places_in_all_twelve_lines(self):
        lines = [f"def {name} {sized(80)}" for name in [*LETTERS[:11], "main"]]
        self.assertEqual(shown(read(text_of(lines))), text_of(lines))

    def test_thirty_deep(self):
        text = "def main " + "never " * 30 + "1"
        self.assertEqual(shown(read(text)), text)

    def test_a_program_of_thirteen_defs_or_none_called_main_is_shown_as_it_is(self):
        program = [("a", ("num", 1))] * 13
        self.assertEqual(shown(program), text_of(["def a 1"] * 13))


class Names(Refusing):
    def test_names_that_are_known(self):
        for words in KNOWN:
            with self.subTest(words=words):
                text = f"def f 1\ndef g 2\ndef main {words}"
                self.assertEqual(shown(read(text)), text)

    def test_names_that_are_open(self):
        for words in OPEN:
            self.refused(read, f"def f 1\ndef g 2\ndef main {words}", NoName)

    def test_names_that_are_open_in_the_first_and_in_a_middle_line(self):
        for words in OPEN:
            self.refused(read, f"def f {words}\ndef g 2\ndef main 1", NoName)
            self.refused(read, f"def f 1\ndef g {words}\ndef main 1", NoName)

    def test_a_def_below_is_open(self):
        for text in (
            "def a b\ndef b 1\ndef main a",
            "def a main\ndef main a",
            "def a fn x do main x\ndef main 1",
            "def a 1\ndef b do c a\ndef c 1\ndef main 1",
            "def a case main l x 1 y 1\ndef main 1",
        ):
            self.refused(read, text, NoName)

    def test_a_def_below_may_be_bound(self):
        for text in ("def a fn b b\ndef b 1\ndef main a", "def a fn main main\ndef main 1"):
            self.assertEqual(shown(read(text)), text)

    def test_what_is_bound_in_a_def_is_not_known_below(self):
        self.refused(read, "def a fn x x\ndef main x", NoName)
        self.refused(read, "def a case tag l 1 l x x y y\ndef main y", NoName)

    def test_the_def_itself_is_known(self):
        for at, name in ((0, "a"), (5, "f"), (11, "main")):
            text = changed(lines_of(12), at, f"def {name} fn x do {name} x")
            self.assertEqual(shown(read(text)), text)

    def test_all_defs_above_are_known(self):
        above = lines_of(12)[:-1]
        last = "def main + a + b + c + d + e + f + g + h + i + j "
        self.assertEqual(shown(read(text_of(above + [last + "k"]))), text_of(above + [last + "k"]))
        self.refused(read, text_of(above + [last + "l"]), NoName)

    def test_a_def_called_like_one_above(self):
        for above, at in itertools.combinations(range(12), 2):
            lines = lines_of(12)
            name = lines[above].split(" ")[1]
            self.refused(read, changed(lines, at, f"def {name} 1"), NoName)

    def test_two_mains(self):
        self.refused(read, "def main 1\ndef main 1", NoName)
        self.refused(read, "def main 1\ndef a 1\ndef main a", NoName)

    def test_no_main_at_last(self):
        for text in (
            "def a 1",
            "def a 1\ndef b 1",
            "def main 1\ndef a 1",
            "def main 1\ndef a main",
            "def a 1\ndef main a\ndef b main",
            "def mai 1",
            "def mainn 1",
            text_of([f"def {name} 1" for name in LETTERS]),
        ):
            self.refused(read, text, NoName)


class Lines(Refusing):
    def test_lines_that_are_no_def(self):
        for line in NO_LINES:
            self.refused(read, line)

    def test_at_the_first_a_middle_and_the_last_line(self):
        for line in NO_LINES:
            for at in (0, 4, 8):
                self.refused(read, changed(lines_of(9), at, line))

    def test_a_text_without_signs(self):
        self.refused(read, "")

    def test_line_ends_alone(self):
        for many in range(1, 12):
            self.refused(read, "\n" * many)
        for many in (12, 13, 100, 20000):
            self.refused(read, "\n" * many, TooMuch)

    def test_an_empty_line_ahead_between_and_behind(self):
        for many in range(1, 12):
            lines = lines_of(many)
            for at in range(many + 1):
                self.refused(read, text_of(lines[:at] + [""] + lines[at:]))
        for at in range(13):
            self.refused(read, text_of(lines_of(12)[:at] + [""] + lines_of(12)[at:]), TooMuch)

    def test_a_line_end_behind_the_last_line(self):
        for many in range(1, 12):
            self.refused(read, text_of(lines_of(many)) + "\n")
        self.refused(read, text_of(lines_of(12)) + "\n", TooMuch)

    def test_only_a_line_feed_ends_a_line(self):
        for end in ("\r", "\r\n", "\x0b", "\x0c", "\x1c", "\x1d", "\x1e", "\x85", "\u2028", "\u2029", " ", "\\n"):
            self.refused(read, end.join(lines_of(2)))
        self.refused(read, "\r".join(["def main 1"] * 20))

    def test_one_line_with_thirteen_defs_is_no_line(self):
        self.refused(read, " ".join(lines_of(12) + ["def main 1"]))

    def test_more_than_twelve_lines(self):
        for many in (13, 14, 20, 1000):
            self.refused(read, text_of(["def main 1"] * many), TooMuch)
            names = [first + second for first in LETTERS for second in LETTERS][:many - 1]
            self.refused(read, text_of([f"def {name} 1" for name in names] + ["def main 1"] * (many - len(names))), TooMuch)

    def test_more_than_twelve_lines_whatever_else_is_wrong(self):
        for line in (*NO_LINES, f"def a {sized(81)}", "def a unknown"):
            for at in (0, 6, 12):
                self.refused(read, changed(["def a 1"] * 13, at, line), TooMuch)


class TooManyPlaces(Refusing):
    def test_eighty_one_and_more(self):
        for many in (81, 82, 83, 160, 1000, 5001):
            self.assertEqual(len(places(read_expression(sized(many)))), many)
            self.refused(read, f"def main {sized(many)}", TooMuch)

    def test_at_each_line(self):
        for at in range(12):
            lines = lines_of(12)
            name = lines[at].split(" ")[1]
            self.refused(read, changed(lines, at, f"def {name} {sized(81)}"), TooMuch)

    def test_the_places_of_each_line_are_counted_by_themselves(self):
        text = f"def a {sized(60)}\ndef main {sized(60)}"
        self.assertEqual(shown(read(text)), text)

    def test_labels_and_bound_names_are_no_places(self):
        text = "def main " + "case 1 l x " * 26 + "1" + " y 1" * 26
        self.assertEqual(len(places(read_expression(text.partition("main ")[2]))), 79)
        self.assertEqual(shown(read(text)), text)


# A line with the fault for a def of this name, behind a def called a.
FAULTS = (
    (NoLine, "def {} + 1"),
    (NoLine, "def {} 1 1"),
    (NoLine, ""),
    (TooMuch, "def {} " + sized(81)),
    (NoName, "def {} unknown"),
    (NoName, "def a 1"),
)

# A line with two faults or more, behind a def called a, and the one that it is refused with.
TWO_FAULTS = (
    (NoLine, f"def main {sized(81)} 1"),
    (NoLine, f"def main + {sized(81)}"),
    (NoLine, f"def if {sized(81)}"),
    (NoLine, f"def main {'never ' * 31}{sized(81)}"),
    (NoLine, "def main + unknown"),
    (NoLine, "def main unknown 1"),
    (NoLine, "def a + 1"),
    (NoLine, "def a"),
    (NoLine, "def a unknown unknown"),
    (NoLine, f"def a {sized(81, 'unknown')} 1"),
    (TooMuch, f"def main {sized(81, 'unknown')}"),
    (TooMuch, f"def main {sized(1001, 'unknown')}"),
    (TooMuch, f"def a {sized(81)}"),
    (TooMuch, f"def a {sized(81, 'unknown')}"),
    (NoName, "def a unknown"),
    (NoName, f"def a {sized(80, 'unknown')}"),
)


class TheOrderOfRefusals(Refusing):
    def test_one_fault_at_each_line(self):
        for refusal, fault in FAULTS:
            for at in range(1, 12):
                lines = lines_of(12)
                name = lines[at].split(" ")[1]
                self.refused(read, changed(lines, at, fault.format(name)), refusal)

    def test_two_faults_in_one_line(self):
        for refusal, line in TWO_FAULTS:
            self.refused(read, f"def a 1\n{line}", refusal)
            self.refused(read, f"def a 1\n{line}\ndef main 1", refusal)

    def test_two_faults_in_the_first_line(self):
        for refusal, line in TWO_FAULTS[:5]:
            self.refused(read, line, refusal)
            self.refused(read, line + "\ndef main 1", refusal)
        self.refused(read, f"def main {sized(81, 'unknown')}", TooMuch)

    def test_two_faults_in_two_lines(self):
        for (first, ahead), (_, behind) in itertools.product(FAULTS, FAULTS):
            for one, other in ((1, 2), (1, 4), (3, 4), (2, 3)):
                lines = lines_of(5)
                for at, fault in ((one, ahead), (other, behind)):
                    lines[at] = fault.format(lines[at].split(" ")[1])
                self.refused(read, text_of(lines), first)

    def test_a_fault_in_a_line_comes_ahead_of_no_main(self):
        for refusal, fault in FAULTS:
            self.refused(read, "def a 1\n" + fault.format("b"), refusal)
            self.refused(read, "def a 1\n" + fault.format("b") + "\ndef c 1", refusal)

    def test_a_def_above_that_is_called_alike_though_it_is_refused_itself(self):
        self.refused(read, "def a +\ndef a 1\ndef main 1")
        self.refused(read, f"def a {sized(81)}\ndef a 1\ndef main 1", TooMuch)


class AnyText(unittest.TestCase):
    def answer(self, text):
        try:
            return read(text)
        except FieldError as refusal:
            return type(refusal)

    def texts(self):
        chance = random.Random(7)
        signs = "abdefimn 01+-*<\n\n  \t\r%{}\\\x00\u00e9\u0661\ud800\U0001f600"
        for length in (0, 1, 2, 5, 20, 100, 1000, 20000):
            for _ in range(30 if length < 1000 else 2):
                yield "".join(chance.choice(signs) for _ in range(length))
        words = "def fn do empty get with put less tag wide case never if + - * < main a b x 0 1 \n".split(" ")
        for length in (2, 3, 4, 6, 10, 30, 1000, 4000):
            for _ in range(100 if length < 1000 else 2):
                yield " ".join(chance.choice(words) for _ in range(length)).replace(" \n ", "\n")
        good = "def id fn x x\ndef two do id 2\ndef main case tag l two l x with a x empty y never y"
        for _ in range(500):
            at = chance.randrange(len(good))
            yield good[:at] + chance.choice(["", " ", "\n", "a", "1", good[at] * 2]) + good[at + 1:]

    def test_read_as_what_is_shown_as_it_or_refused(self):
        read_ones = 0
        for text in self.texts():
            with self.subTest(text=text[:60]):
                first = self.answer(text)
                self.assertEqual(self.answer(text), first)
                if isinstance(first, list):
                    read_ones += 1
                    self.assertEqual(shown(first), text)
                else:
                    self.assertIn(first, (TooMuch, NoLine, NoName))
        self.assertGreater(read_ones, 20)


class AskedAgain(unittest.TestCase):
    def test_the_same_and_a_new_list(self):
        for text, program in PROGRAMS:
            first = read(text)
            second = read(text)
            self.assertIsNot(first, second)
            first.append("more")
            first[0] = None
            self.assertEqual(second, program)
            self.assertEqual(read(text), program)
            self.assertEqual(shown(second), shown(program))

    def test_a_refusal_between_changes_nothing(self):
        for text, program in PROGRAMS:
            for refused in ("", "def a 1", text + "\n", "\n" * 12):
                with self.assertRaises(FieldError):
                    read(refused)
            self.assertEqual(read(text), program)

    def test_a_def_read_before_is_not_known(self):
        read("def a 1\ndef main a")
        for text in ("def main a", "def b a\ndef main b"):
            with self.assertRaises(NoName):
                read(text)

    def test_what_is_shown_is_not_changed(self):
        for _, program in PROGRAMS:
            before = copy.deepcopy(program)
            shown(program)
            self.assertEqual(program, before)


if __name__ == "__main__":
    unittest.main()
