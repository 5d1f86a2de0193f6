"""[27], [8]: the answer of a text and a number of steps, and what a text is refused with."""

import random
import unittest

from fieldrows.desk import answered
from fieldrows.errors import NoLine, NoName, TooMuch
from fieldrows.finding import clash, schemes
from fieldrows.plain import run
from fieldrows.showing import shown_scheme, shown_value
from fieldrows.texts import shown
from drawing import any_program, let_program, row_program
from refusing import Refusing


class Desk(Refusing):
    def answers(self, text, most, *lines):
        with self.subTest(text=text, most=most):
            self.assertEqual(answered(text, most), "\n".join(lines))


class LetPrograms(Desk):
    def test_one_def(self):
        self.answers("def main 5", 10, "main is num", "value 0 5")
        self.answers("def main fn x x", 10, "main is fun k0 k0", "value 0 fn")
        self.answers("def main empty", 0, "main is rec ( )", "value 0 rec ( )")
        self.answers("def main tag a 1", 0, "main is one ( a num | r0 ) where r0 a", "value 0 one a 1")
        kind = "rec ( a num b one ( c num | r0 ) ) where r0 c"
        self.answers("def main with b tag c 2 with a 1 empty", 0, f"main is {kind}", "value 0 rec ( a 1 b one c 2 )")

    def test_several_defs_line_by_line(self):
        text = "def geta fn r get a r\ndef up fn r put a + 1 do geta r r\ndef main do up with b 2 with a 1 empty"
        lines = (
            "geta is fun rec ( a k0 | r1 ) k0 where r1 a",
            "up is fun rec ( a num | r0 ) rec ( a num | r0 ) where r0 a",
            "main is rec ( a num b num )",
        )
        self.answers(text, 100, *lines, "value 4 rec ( a 2 b 2 )")
        self.answers(text, 4, *lines, "value 4 rec ( a 2 b 2 )")
        for most in range(4):
            self.answers(text, most, *lines, f"tired {most}")

    def test_tired(self):
        self.answers("def main main", 7, "main is k0", "tired 7")
        self.answers("def main main", 0, "main is k0", "tired 0")
        self.answers("def f fn x do f x\ndef main + 1 do f 2", 1000, "f is fun k0 k1", "main is num", "tired 1000")

    def test_twelve_defs(self):
        names = "abcdefghijk"
        lines = ["def a fn x x"] + [f"def {name} {above}" for above, name in zip(names, names[1:])] + ["def main do k 5"]
        self.answers("\n".join(lines), 1000, *[f"{name} is fun k0 k0" for name in names], "main is num", "value 12 5")

    def test_drawn_at_will(self):
        chance = random.Random(111)
        met = 0
        for _ in range(60):
            for program in (let_program(chance), row_program(chance)):
                lines = [f"{name} is {shown_scheme(scheme)}" for (name, E), scheme in zip(program, schemes(program))]
                word, steps, what = run(program, 200)
                end = f"value {steps} {shown_value(what)}" if word == "value" else f"tired {steps}"
                try:
                    told = answered(shown(program), 200)
                except TooMuch:
                    # Some few have more than 80 places.
                    continue
                met += 1
                self.assertEqual(told, "\n".join([*lines, end]))
        self.assertGreater(met, 100)


class ProgramsThatAreNotLet(Desk):
    def test_the_one_line(self):
        self.answers("def main + empty 1", 10, "clash main 0 1")
        self.answers("def main fn x do x x", 10, "clash main 1 2 3")
        self.answers("def f 1\ndef main do f 2", 10, "clash main 0 1")
        self.answers("def f get a 1\ndef g get a 1\ndef main do f 2", 10, "clash f 0 1")
        self.answers("def f fn r get a r\ndef main do f empty", 0, "clash main 0 1 2")

    def test_places_of_two_figures(self):
        text = "def main " + "+ 1 " * 29 + "empty"
        self.answers(text, 10, "clash main 56 58")

    def test_any_programs(self):
        chance = random.Random(112)
        for _ in range(200):
            program = any_program(chance, 3)
            told = clash(program)
            if told is not None:
                places = " ".join(str(place) for place in told[1])
                self.answers(shown(program), 50, f"clash {told[0]} {places}")


class RefusedTexts(Desk):
    def no_answer(self, text, refusal):
        for most in (0, 10):
            self.refused(lambda some: answered(some, most), text, refusal)

    def test_too_many_lines(self):
        lines = [f"def {name} 1" for name in "abcdefghijkl"]
        self.no_answer("\n".join([*lines, "def main 1"]), TooMuch)
        self.no_answer("\n".join(["nothing"] * 13), TooMuch)
        self.no_answer("\n" * 12, TooMuch)

    def test_lines_that_are_no_defs(self):
        deep = "def main " + "fn x " * 31 + "x"
        for text in (
            "", "\n", " ", "main 1", "def main", "def main 1 2", "def if 1", "def main 01", "def main  1", "def main 1\n",
            "def main get 1 2", "DEF main 1", "def main \u0661", deep,
        ):
            self.no_answer(text, NoLine)

    def test_too_many_places(self):
        self.no_answer(f"def main {self.sums(41)}", TooMuch)
        self.assertEqual(answered(f"def main {self.sums(40)}", 0), "main is num\nvalue 0 40")

    def sums(self, many):
        """A sum of so many numbers: 2 * many - 1 places."""
        if many == 1:
            return "1"
        return f"+ {self.sums(many // 2)} {self.sums(many - many // 2)}"

    def test_names(self):
        self.no_answer("def main x", NoName)
        self.no_answer("def f 1\ndef f 1\ndef main 1", NoName)
        self.no_answer("def f g\ndef g 1\ndef main 1", NoName)
        self.no_answer("def f 1", NoName)
        self.no_answer("def main 1\ndef f 1", NoName)

    def test_the_first_line_with_a_fault(self):
        self.no_answer("def f x\ndef main get", NoName)
        self.no_answer("def f get\ndef main x", NoLine)
        self.no_answer(f"def f x\ndef main {self.sums(41)}", NoName)
        self.no_answer(f"def f {self.sums(41)}\ndef main x", TooMuch)
        self.no_answer(f"def f 1\ndef f {self.sums(41)}", TooMuch)
        self.no_answer("def f + empty 1\ndef main x", NoName)
        self.no_answer("def f get a 1\ndef g 2", NoName)


if __name__ == "__main__":
    unittest.main()
