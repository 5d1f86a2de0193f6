"""[9], [10], [11]: what comes of an expression, where a run is stuck, a run, its steps, and how a value is told."""

import copy
import random
import unittest

from fieldrows.plain import run
from fieldrows.texts import read
from drawing import any_program
from programs import WAITING, program_of, waiting

FN = ("fn",)


def rec(**fields):
    return ("rec", tuple(sorted(fields.items())))


def one(label, value):
    return ("one", label, value)


class Running(unittest.TestCase):
    def comes(self, value, *defs, steps=None):
        """The value that comes of main, the last of these defs or the one expression; and the steps, if they are told."""
        program = self.program(defs)
        with self.subTest(defs=defs):
            told = run(program, 1000)
            self.assertEqual((told[0], told[2]), ("value", value))
            if steps is not None:
                self.assertEqual(told[1], steps)
            self.bounded(program, told)

    def stuck(self, name, place, *defs, steps=None):
        program = self.program(defs)
        with self.subTest(defs=defs):
            told = run(program, 1000)
            self.assertEqual((told[0], told[2]), ("stuck", (name, place)))
            if steps is not None:
                self.assertEqual(told[1], steps)
            self.bounded(program, told)

    def program(self, defs):
        return program_of(*defs[:-1], f"main {defs[-1]}")

    def bounded(self, program, told):
        """Just as many steps do, and with fewer it ends tired."""
        self.assertEqual(run(program, told[1]), told)
        for most in {0, 1, told[1] - 1}:
            if 0 <= most < told[1]:
                self.assertEqual(run(program, most), ("tired", most, None))


class EachWord(Running):
    def test_num(self):
        self.comes(0, "0", steps=0)
        self.comes(999999, "999999", steps=0)

    def test_bound_names(self):
        self.comes(5, "do fn x x 5", steps=1)
        self.comes(1, "do do fn x fn y x 1 2", steps=2)
        self.comes(2, "do do fn x fn y y 1 2", steps=2)

    def test_names_bound_anew(self):
        self.comes(2, "do do fn x fn x x 1 2", steps=2)
        self.comes(3, "do fn x + do fn x x 2 x 1")
        self.comes(12, "do fn x case tag a + x 1 a x + x 10 y 0 1")
        self.comes(rec(p=one("b", 7), q=1), "do fn x with q x with p case tag b 7 a x x x x empty 1")
        self.comes(5, "f 9", "do fn f f 5", steps=1)
        self.comes(5, "do fn main main 5", steps=1)
        self.comes(4, "x 9", "do fn y case tag b 4 b x x y x 3")
        self.comes(9, "x 9", "do fn y case tag b 4 a y 1 y x 3")

    def test_the_name_of_a_def(self):
        self.comes(7, "f 7", "f", steps=1)
        self.comes(7, "f 7", "g f", "h g", "h", steps=3)
        self.comes(14, "f 7", "+ f f", steps=2)
        self.comes(3, "f fn x + x 1", "do f 2", steps=2)
        self.comes(FN, "f fn x + x 1", "f", steps=1)
        self.assertEqual(run(program_of("main main"), 5), ("tired", 5, None))

    def test_a_def_knows_nothing_bound_where_it_is_used(self):
        self.comes(1, "x 1", "f x", "do fn x f 5", steps=3)

    def test_fn(self):
        self.comes(FN, "fn x x", steps=0)
        self.comes(FN, "fn x + 1 empty", steps=0)

    def test_functions_keep_what_is_bound_around_them(self):
        self.comes(12, "do do fn x fn y + x y 5 7", steps=2)
        self.comes(5, "do fn x do fn f do fn x do f 0 9 fn z x 5")
        self.comes(11, "add fn x fn y + x y", "do fn f + do f 1 do fn x do f 4 100 do add 3")
        self.comes(rec(a=1, b=2), "k fn x fn y x", "do fn f do fn g with a do f 0 with b do g 0 empty do k 2 do k 1")
        self.comes(8, "do case tag a 8 a x fn u x y fn u 0 1")
        self.comes(one("b", 8), "do case tag b 8 a x fn u x y fn u y 1")

    def test_do_reckons_the_function_first(self):
        self.stuck("main", 1, "do never 1 never 2")
        self.stuck("main", 2, "do 1 never 2")
        self.comes(6, "do if 1 fn x + x 1 fn x x 5", steps=1)

    def test_empty(self):
        self.comes(("rec", ()), "empty", steps=0)

    def test_get(self):
        self.comes(1, "get a with b 2 with a 1 empty")
        self.comes(2, "get b with b 2 with a 1 empty")
        self.comes(3, "get a get b with b with a 3 empty empty")

    def test_with(self):
        self.comes(rec(a=1), "with a 1 empty")
        self.comes(rec(a=1, b=2, c=3), "with b 2 with c 3 with a 1 empty")
        self.comes(rec(a=rec(), b=FN, c=one("a", 1)), "with c tag a 1 with b fn x x with a empty empty")

    def test_put(self):
        self.comes(rec(a=9, b=2), "put a 9 with b 2 with a 1 empty")
        self.comes(rec(a=rec(), b=2), "put a empty with b 2 with a 1 empty")
        self.comes(rec(a=2), "do fn r put a + 1 get a r r with a 1 empty")

    def test_less(self):
        self.comes(rec(b=2), "less a with b 2 with a 1 empty")
        self.comes(rec(), "less a with a 1 empty")
        self.comes(rec(a=5), "with a 5 less a with a 1 empty")

    def test_the_first_record_stays_as_it_was(self):
        for change, changed in (
            ("with c 3 r", rec(a=1, b=2, c=3)), ("put a 9 r", rec(a=9, b=2)), ("less a r", rec(b=2)),
            ("put b r r", rec(a=1, b=rec(a=1, b=2))), ("with c r r", rec(a=1, b=2, c=rec(a=1, b=2))),
        ):
            record = "with a 1 with b 2 empty"
            self.comes(rec(p=changed, q=rec(a=1, b=2)), f"do fn r with q r with p {change} empty {record}")
            self.comes(rec(p=rec(a=1, b=2), q=changed), f"do fn r with p r with q {change} empty {record}")
        self.comes(rec(p=rec(a=1), q=rec(a=2)), "do fn r do fn f with p do f 1 with q do f 2 empty fn x put a x r with a 0 empty")
        self.comes(rec(p=rec(a=1), q=rec(b=2)), "base empty", "with p with a 1 base with q with b 2 base empty")

    def test_tag_and_wide(self):
        self.comes(one("a", 1), "tag a 1")
        self.comes(one("a", one("b", rec())), "tag a tag b empty")
        self.comes(one("a", 1), "wide b tag a 1")
        self.comes(one("a", 1), "wide c wide b tag a 1")

    def test_case(self):
        self.comes(6, "case tag a 5 a x + x 1 y 0")
        self.comes(0, "case tag b 5 a x + x 1 y 0")
        self.comes(one("b", 5), "case tag b 5 a x x y y")
        self.comes(7, "case tag b 5 a x x y case y b x + x 2 y never y")
        self.comes(5, "case wide a tag b 5 a x x y case y b x x y never y")
        self.comes(1, "case tag a 1 a x x x 2")
        self.comes(one("b", 1), "case tag b 1 a x 2 x x")

    def test_if(self):
        self.comes(1, "if 1 1 2")
        self.comes(2, "if 0 1 2")
        self.comes(1, "if 999999 1 2")
        self.comes(rec(), "if - 1 1 1 empty")

    def test_workings(self):
        self.comes(5, "+ 2 3")
        self.comes(0, "+ 999999 1")
        self.comes(999998, "+ 999999 999999")
        self.comes(999999, "+ 999999 0")
        self.comes(1, "- 3 2")
        self.comes(0, "- 3 3")
        self.comes(999999, "- 2 3")
        self.comes(1, "- 0 999999")
        self.comes(6, "* 2 3")
        self.comes(0, "* 1000 1000")
        self.comes(1, "* 999999 999999")
        self.comes(999998, "* 999999 2")
        self.comes(1, "< 2 3")
        self.comes(0, "< 3 3")
        self.comes(0, "< 3 2")
        self.comes(1, "< 0 999999")
        self.comes(0, "< 999999 + 999999 1")

    def test_the_first_is_reckoned_first(self):
        for word in "+-*<":
            self.stuck("main", 1, f"{word} never 1 never 2")
            self.stuck("main", 2, f"{word} 1 never 2")
        for word in ("with", "put"):
            self.stuck("main", 1, f"{word} a never 1 never 2")
            self.stuck("main", 2, f"{word} a 1 never 2")


class Stuck(Running):
    VALUES = {"num": "1", "rec": "empty", "one": "tag b 1", "fn": "fn x x"}

    def test_of_values_of_other_sorts(self):
        for expression, place, right in (
            ("do {} 1", 0, "fn"), ("get a {}", 0, ""), ("with a 1 {}", 0, "rec"), ("put a 1 {}", 0, ""), ("less a {}", 0, ""),
            ("wide a {}", 0, "one"), ("case {} b x 1 y 2", 0, "one"), ("never {}", 0, ""), ("if {} 1 2", 0, "num"),
            ("+ {} 1", 0, "num"), ("+ 1 {}", 0, "num"), ("- {} 1", 0, "num"), ("- 1 {}", 0, "num"),
            ("* {} 1", 0, "num"), ("* 1 {}", 0, "num"), ("< {} 1", 0, "num"), ("< 1 {}", 0, "num"),
        ):
            for sort, value in self.VALUES.items():
                line = expression.format(value)
                if sort == right:
                    self.assertEqual(run(program_of(f"main {line}"), 9)[0], "value", line)
                else:
                    self.stuck("main", place, line, steps=0)

    def test_of_fields_that_are_there_and_not(self):
        for word in ("get a", "put a 1", "less a"):
            self.stuck("main", 0, f"{word} with b 1 empty")
            self.stuck("main", 0, f"{word} less a with a 1 empty")
            self.stuck("main", 0, f"{word} with aa 1 empty")
            self.assertEqual(run(program_of(f"main {word} with a 1 empty"), 0)[0], "value")
        self.stuck("main", 0, "with a 1 with a 2 empty")
        self.stuck("main", 0, "with a 1 with b 3 with a 2 empty")
        self.stuck("main", 0, "with a 1 put a 2 with a 2 empty")
        self.comes(rec(a=1, aa=2), "with a 1 with aa 2 empty")

    def test_wide_of_its_own_label(self):
        self.stuck("main", 0, "wide a tag a 1")
        self.stuck("main", 0, "wide a wide b tag a 1")

    def test_never_of_anything(self):
        for value in ("1", "empty", "tag a 1", "fn x x", "with a 1 empty"):
            self.stuck("main", 0, f"never {value}")
        self.stuck("main", 4, "case tag a 1 b x x y never y")

    def test_the_place_is_told_behind_its_parts(self):
        self.stuck("main", 1, "get a never 1")
        self.stuck("main", 2, "do 1 get a 2")
        self.stuck("main", 2, "with a 1 never 1")
        self.stuck("main", 1, "put a get b 1 1")
        self.stuck("main", 3, "put a + 1 never 1 1")
        self.stuck("main", 1, "never never 1")
        self.stuck("main", 1, "case get a 1 b x 1 y 1")
        self.stuck("main", 1, "if get a 1 1 1")
        self.stuck("main", 1, "wide a less b 1")
        self.stuck("main", 1, "less a less b 1")
        self.stuck("main", 3, "+ empty get a get b 1")
        self.stuck("main", 0, "+ empty + 1 1")
        self.stuck("main", 1, "tag a never 1")

    def test_the_first_of_several(self):
        self.stuck("main", 1, "+ get a 1 get b 1")
        self.stuck("main", 6, "with a + 1 2 get b less c never 1")
        self.stuck("main", 4, "do fn x never x get a 1")
        self.stuck("main", 3, "do fn x get b never x with a 1 empty")

    def test_in_the_text_of_the_def_where_it_stands(self):
        self.stuck("f", 0, "f get a 1", "f", steps=1)
        self.stuck("f", 1, "f fn r get a r", "do f empty", steps=2)
        self.stuck("f", 1, "f fn r get a r", "g fn r do f r", "+ 1 do g empty", steps=4)
        self.stuck("main", 3, "f fn h do h 1", "do f fn x get a x", steps=3)
        self.stuck("f", 2, "f fn x fn y + x y", "g do f 1", "do g empty", steps=4)
        self.stuck("g", 0, "f fn x empty", "g + 1 do f 1", "g", steps=3)

    def test_after_steps(self):
        self.stuck("main", 0, "f fn x x", "get a do f 5", steps=2)
        program = program_of("f fn x x", "main get a do f 5")
        self.assertEqual(run(program, 2), ("stuck", 2, ("main", 0)))
        self.assertEqual(run(program, 1), ("tired", 1, None))
        # No step is made for what is no function.
        self.assertEqual(run(program_of("main do 1 2"), 0), ("stuck", 0, ("main", 0)))

    def test_what_is_never_come_to(self):
        self.comes(1, "if 1 1 get a 1")
        self.comes(2, "if 0 never 1 2")
        self.comes(1, "case tag a 1 a x x y never y")
        self.comes(0, "case tag b 1 a x never x y 0")
        self.comes(FN, "fn x get a 1")
        self.comes(3, "f get a 1", "3")
        self.comes(5, "do fn f 5 fn x never x")

    def test_each_place_by_its_number(self):
        """One place of many is never 0, and all others are sums."""
        chance = random.Random(61)
        for _ in range(60):
            order = self.sums(chance, 6)
            at = chance.choice([at for at, word in enumerate(order) if word == "1"])
            self.stuck("main", at, " ".join([*order[:at], "never 0", *order[at + 1:]]), steps=0)

    def sums(self, chance, many):
        if many == 0:
            return ["1"]
        left = chance.randrange(many)
        return ["+", *self.sums(chance, left), *self.sums(chance, many - 1 - left)]


class Steps(Running):
    def test_no_steps(self):
        self.assertEqual(run(program_of("main + 1 2"), 0), ("value", 0, 3))
        self.assertEqual(run(program_of("main do fn x x 1"), 0), ("tired", 0, None))
        self.assertEqual(run(program_of("f 1", "main f"), 0), ("tired", 0, None))
        self.assertEqual(run(program_of("main get a 1"), 0), ("stuck", 0, ("main", 0)))

    def test_uses_and_calls_are_counted(self):
        self.comes(3, "+ 1 2", steps=0)
        self.comes(3, "do fn x + x 2 1", steps=1)
        self.comes(3, "f fn x + x 2", "do f 1", steps=2)
        self.comes(6, "f fn x + x 2", "+ do f 1 do f 1", steps=4)
        self.comes(1, "f fn x + x 2", "if 1 1 do f 1", steps=0)
        self.comes(120, "fac fn n if n * n do fac - n 1 1", "do fac 5", steps=12)

    def test_the_step_of_a_call_is_made_behind_both_parts(self):
        program = program_of("f fn x x", "main do f get a 1")
        self.assertEqual(run(program, 1), ("stuck", 1, ("main", 2)))
        self.assertEqual(run(program, 0), ("tired", 0, None))

    def test_just_enough_and_one_fewer(self):
        program = program_of("f fn n if n do f - n 1 7", "main do f 100")
        self.assertEqual(run(program, 202), ("value", 202, 7))
        self.assertEqual(run(program, 1000), ("value", 202, 7))
        for most in (0, 1, 2, 100, 200, 201):
            self.assertEqual(run(program, most), ("tired", most, None))

    def test_endless_runs(self):
        for line in ("main main", "main + 1 main", "main do fn x do x x fn x do x x", "main do main main"):
            for most in (0, 1, 999, 1000):
                self.assertEqual(run(program_of(line), most), ("tired", most, None))


class AThousand(Running):
    def test_uses_that_wait_within_one_another(self):
        for around in ("+ 1 {}", "+ {} 1", "tag a {}", "with a {} empty", "get a {}", "do {} 1", "do fn x x {}", "if {} 1 2",
                       "case {} a x 1 y 2", "never {}", "wide a {}", "less a {}", "put a {} empty", "put a 1 {}", "with a 1 {}"):
            for most in (0, 1, 999, 1000):
                with self.subTest(around=around, most=most):
                    self.assertEqual(run(program_of("main " + around.format("main")), most), ("tired", most, None))

    def test_calls_that_wait_in_each_word(self):
        for word in WAITING:
            program = waiting(word, 498)
            with self.subTest(waits=word):
                word, steps, value = run(program, 1000)
                self.assertEqual(word, "value")
                self.assertIn(steps, range(990, 1001))
                self.assertEqual(run(program, steps), (word, steps, value))
                self.assertEqual(run(program, steps - 1), ("tired", steps - 1, None))

    def test_values_of_those_that_wait(self):
        for word, value in (("+, the first", 499), ("+, the second", 499), ("-, the second", 1), ("if", 1), ("get", rec(a=1))):
            self.assertEqual(run(waiting(word, 498), 1000), ("value", 998, value))
        self.assertEqual(run(waiting("case", 498), 1000), ("value", 998, one("b", 499)))

    def test_stuck_at_the_end_of_many(self):
        program = program_of("f fn n if n + 1 do f - n 1 never 1", "main do f 400")
        self.assertEqual(run(program, 1000), ("stuck", 802, ("f", 10)))

    def test_calls_alone(self):
        """fn g fn n: each of which is handed itself, so that nothing is used by its name."""
        line = "main do do fn g do g g fn g fn n if n + 1 do do g g - n 1 0 490"
        self.assertEqual(run(program_of(line), 1000), ("value", 983, 490))

    def test_functions_that_keep_a_thousand_others(self):
        program = program_of("f fn n fn h if n do do f - n 1 fn x do h + x 1 do h 0", "main do do f 240 fn x x")
        self.assertEqual(run(program, 1000)[::2], ("value", 240))


class Told(Running):
    def test_each_sort(self):
        self.comes(7, "7")
        self.comes(FN, "fn x x")
        self.comes(("rec", ()), "empty")
        self.comes(("rec", (("a", 1), ("ab", 2), ("b", ("rec", (("c", FN),))))), "with b with c fn x x empty with ab 2 with a 1 empty")
        self.comes(("one", "a", ("rec", (("b", ("one", "c", 1)),))), "tag a with b tag c 1 empty")

    def test_records_by_rising_labels(self):
        labels = ["b", "a", "ab", "zz", "z", "ba", "aaa", "aa"]
        chance = random.Random(62)
        for _ in range(20):
            chance.shuffle(labels)
            text = "".join(f"with {label} {at} " for at, label in enumerate(labels)) + "empty"
            self.comes(("rec", tuple(sorted((label, at) for at, label in enumerate(labels)))), text)

    def of_parts(self, many):
        """Of a value of p parts more makes one of p + 1, and twice one of 2p + 1."""
        if many == 1:
            return "1"
        if many % 2:
            return "do twice " + self.of_parts(many // 2)
        return "do more " + self.of_parts(many - 1)

    def test_two_hundred_parts(self):
        defs = ["twice fn x with a x with b x empty", "more fn x tag a x"]
        for many in (1, 2, 3, 50, 198, 199, 200):
            told = run(program_of(*defs, f"main {self.of_parts(many)}"), 1000)
            self.assertEqual((told[0], self.counted(told[2])), ("value", many))
        for many in (201, 202, 203, 300, 1000, 100000):
            told = run(program_of(*defs, f"main {self.of_parts(many)}"), 1000)
            self.assertEqual((told[0], told[2]), ("value", ("deep",)))

    def counted(self, value):
        if isinstance(value, int) or value == FN:
            return 1
        if value[0] == "one":
            return 1 + self.counted(value[2])
        return 1 + sum(self.counted(inside) for label, inside in value[1])

    def test_functions_and_records_count_too(self):
        defs = ["twice fn x with a x with b x empty"]
        for first, deep in (("fn x x", False), ("empty", False), ("tag a empty", True)):
            # 7 times 2p + 1: of 1 part come 255; of 6 times 127, and of 2 parts 191.
            program = program_of(*defs, "main " + "do twice " * 6 + first)
            self.assertEqual(self.counted(run(program, 1000)[2]), 191 if deep else 127)
            program = program_of(*defs, "main " + "do twice " * 7 + first)
            self.assertEqual(run(program, 1000)[2], ("deep",))

    def test_what_a_function_keeps_is_no_part(self):
        program = program_of("twice fn x with a x with b x empty", "main do fn r fn x r " + "do twice " * 20 + "1")
        self.assertEqual(run(program, 1000), ("value", 41, FN))

    def test_a_great_many_parts(self):
        program = program_of("twice fn x with a x with b x empty", "main " + "do twice " * 29 + "1")
        self.assertEqual(run(program, 1000), ("value", 58, ("deep",)))
        program = program_of("f fn n if n do fn x with a x with b x empty do f - n 1 1", "main do f 300")
        self.assertEqual(run(program, 1000), ("value", 902, ("deep",)))
        program = program_of("f fn n if n do fn x with a x with b x empty do f - n 1 1", "main get a with a 5 with b do f 300 empty")
        self.assertEqual(run(program, 1000), ("value", 902, 5))

    def test_values_within_one_another(self):
        program = program_of("f fn n if n tag a do f - n 1 0", "main do f 149")
        value = 0
        for _ in range(149):
            value = ("one", "a", value)
        self.assertEqual(run(program, 1000), ("value", 300, value))
        for many in (198, 199, 200, 400):
            told = run(program_of("f fn n if n tag a do f - n 1 0", f"main do f {many}"), 1000)
            self.assertEqual(told[2] == ("deep",), many > 199)


class TheAskers(Running):
    def test_what_is_handed_in_stays_as_it_was(self):
        chance = random.Random(63)
        for _ in range(60):
            program = any_program(chance)
            before = copy.deepcopy(program)
            first = run(program, 100)
            self.assertEqual(program, before)
            self.assertEqual(run(program, 100), first)

    def test_programs_of_twelve_lines_and_thirty_deep(self):
        lines = [f"def {name} fn x + x {at}" for at, name in enumerate("abcdefghijk")]
        program = read("\n".join(lines + ["def main " + "".join(f"do {name} " for name in "abcdefghijk") + "0"]))
        self.assertEqual(run(program, 1000), ("value", 22, 55))
        self.assertEqual(run(program_of("main " + "+ 1 " * 30 + "1"), 0), ("value", 0, 31))
        self.assertEqual(run(program_of("main " + "+ 1 " * 29 + "never 1"), 0), ("stuck", 0, ("main", 58)))


if __name__ == "__main__":
    unittest.main()
