"""[23], [24], [25]: how the made program is run, and its values, read by a kind."""

import copy
import random
import unittest

from fieldrows.finding import schemes
from fieldrows.machine import read_by, run_made
from fieldrows.making import made
from fieldrows.plain import run
from drawing import let_program
from forms import NUM, fun, kind_of, one, rec, var
from programs import WAITING, program_of, waiting

FN = ("fn",)


def recs(*values):
    return ("rec", values)


def nested(value, many, wrap):
    for _ in range(many):
        value = wrap(value)
    return value


class Machine(unittest.TestCase):
    def comes(self, value, *defs, steps=None):
        """The value, without labels, that comes of main, the last of these defs or the one expression."""
        program = program_of(*defs[:-1], f"main {defs[-1]}")
        with self.subTest(defs=defs):
            code = made(program)
            told = run_made(code, 1000)
            self.assertEqual((told[0], told[2]), ("value", value))
            if steps is not None:
                self.assertEqual(told[1], steps)
            self.as_plain(program, code, told)

    def as_plain(self, program, code, told):
        word, steps, what = run(program, 1000)
        self.assertEqual((word, steps, what), (told[0], told[1], read_by(schemes(program)[-1][0], told[2])))
        self.assertEqual(run_made(code, told[1]), told)
        for most in {0, 1, told[1] - 1}:
            if 0 <= most < told[1]:
                self.assertEqual(run_made(code, most), ("tired", most, None))


class EachWord(Machine):
    def test_num_and_names(self):
        self.comes(0, "0", steps=0)
        self.comes(999999, "999999", steps=0)
        self.comes(5, "do fn x x 5", steps=1)
        self.comes(1, "do do fn x fn y x 1 2", steps=2)
        self.comes(2, "do do fn x fn x x 1 2", steps=2)
        self.comes(7, "f 7", "g f", "g", steps=2)
        self.comes(5, "f 7", "do fn f f 5", steps=1)

    def test_functions_keep_what_is_bound_around_them(self):
        self.comes(FN, "fn x x", steps=0)
        self.comes(12, "do do fn x fn y + x y 5 7", steps=2)
        self.comes(5, "do fn x do fn f do fn x do f 0 9 fn z x 5")
        self.comes(recs(1, 2), "k fn x fn y x", "do fn f do fn g with a do f 0 with b do g 0 empty do k 2 do k 1")
        self.comes(8, "do case tag a 8 a x fn u x y fn u 0 1")

    def test_if_and_workings(self):
        self.comes(1, "if 1 1 2")
        self.comes(2, "if 0 1 2")
        self.comes(1, "if 999999 1 2")
        for text, value in (
            ("+ 2 3", 5), ("+ 999999 1", 0), ("+ 999999 999999", 999998), ("- 3 2", 1), ("- 2 3", 999999), ("- 0 999999", 1),
            ("* 2 3", 6), ("* 999999 999999", 1), ("* 1000 1000", 0), ("< 2 3", 1), ("< 3 3", 0), ("< 3 2", 0),
        ):
            self.comes(value, text, steps=0)

    def test_empty_and_with(self):
        self.comes(recs(), "empty")
        self.comes(recs(1), "with a 1 empty")
        self.comes(recs(1, 2, 3), "with a 1 with b 2 with c 3 empty")
        self.comes(recs(1, 2, 3), "with b 2 with a 1 with c 3 empty")
        self.comes(recs(1, 2, 3), "with c 3 with a 1 with b 2 empty")
        self.comes(recs(recs(), FN, ("one", 0, 1)), "with b fn x x with a empty with c tag a 1 empty")

    def test_get_at_the_first_a_middle_and_the_last(self):
        for at, label in enumerate("abcd"):
            self.comes(at + 1, f"get {label} with d 4 with b 2 with a 1 with c 3 empty")

    def test_put_at_the_first_a_middle_and_the_last(self):
        for at, label in enumerate("abcd"):
            values = [1, 2, 3, 4]
            values[at] = recs()
            self.comes(recs(*values), f"put {label} empty with d 4 with b 2 with a 1 with c 3 empty")

    def test_less_at_the_first_a_middle_and_the_last(self):
        for at, label in enumerate("abcd"):
            values = [1, 2, 3, 4]
            values.pop(at)
            self.comes(recs(*values), f"less {label} with d 4 with b 2 with a 1 with c 3 empty")
        self.comes(recs(), "less a with a 1 empty")

    def test_with_ahead_of_what_stands_there(self):
        for at, label in enumerate(("a", "bb", "cc", "dd")):
            values = [2, 3, 4]
            values.insert(at, 9)
            self.comes(recs(*values), f"with {label} 9 with d 4 with b 2 with c 3 empty")

    def test_the_first_record_stays_as_it_was(self):
        for change, changed in (
            ("with c 3 r", recs(1, 2, 3)), ("put a 9 r", recs(9, 2)), ("less a r", recs(2)), ("put b r r", recs(1, recs(1, 2))),
        ):
            record = "with a 1 with b 2 empty"
            self.comes(recs(changed, recs(1, 2)), f"do fn r with q r with p {change} empty {record}")
            self.comes(recs(recs(1, 2), changed), f"do fn r with p r with q {change} empty {record}")

    def test_the_field_is_reckoned_ahead_of_the_record(self):
        """Where the steps do not reach, both are tired at the same step; so the order shows in steps alone."""
        self.comes(recs(1, 2), "f fn x x", "with a do f 1 with b do f 2 empty", steps=4)
        self.comes(recs(1, 2), "f fn x x", "put a do f 1 with b do f 2 with a 0 empty", steps=4)

    def test_tag(self):
        self.comes(("one", 0, 1), "tag a 1")
        self.comes(("one", 0, ("one", 0, recs())), "tag a tag b empty")
        self.comes(("one", 0, FN), "tag a fn x x")
        self.comes(recs(("one", 0, recs(FN, ("one", 0, FN)))), "with a tag b with a fn x x with b tag a fn x 1 empty empty")
        # Where the kind has lesser labels, the number is greater.
        self.comes(("one", 1, 1), "if 1 tag b 1 tag a 2")
        self.comes(("one", 0, 2), "if 0 tag b 1 tag a 2")

    def test_wide_below_at_and_above_the_number(self):
        self.comes(("one", 0, 1), "wide b tag a 1")
        self.comes(("one", 1, 1), "wide a tag b 1")
        self.comes(("one", 2, 1), "wide a wide b tag c 1")
        self.comes(("one", 1, 1), "wide a wide c tag b 1")
        self.comes(("one", 1, 1), "wide c wide a tag b 1")
        self.comes(("one", 2, 7), "wide b if 1 tag c 7 tag a 8")
        self.comes(("one", 0, 8), "wide b if 0 tag c 7 tag a 8")

    def test_case_that_is_met(self):
        self.comes(6, "case tag a 5 a x + x 1 y 0")
        self.comes(6, "case wide a tag b 5 b x + x 1 y 0")
        self.comes(6, "case if 1 tag c 5 if 1 tag a 1 tag b 2 c x + x 1 y 0")

    def test_case_that_is_not_met(self):
        """By a lesser and a greater number: the rest has one label fewer."""
        every = "fn c case c b x + x 100 y case y a x + x 10 z case z c x + x 20 u never u"
        for tagged, value in (("tag a 1", 11), ("tag b 1", 101), ("tag c 1", 21)):
            self.comes(value, f"f {every}", f"do f {tagged}")
        rest = "fn c case c b x tag d x y y"
        for tagged, value in (("tag a 1", ("one", 0, 1)), ("tag b 1", ("one", 2, 1)), ("tag c 1", ("one", 1, 1))):
            self.comes(value, f"f {rest}", f"if 1 do f {tagged} if 0 tag a 0 if 0 tag c 0 tag d 0")
        self.comes(("one", 1, 7), "case if 1 tag c 7 if 0 tag a 1 tag b 2 b x tag a 3 y y")
        self.comes(("one", 0, 1), "case if 0 tag c 7 if 1 tag a 1 tag b 2 b x tag a 3 y y")

    def test_what_case_binds(self):
        self.comes(5, "case tag a 5 a x x x 0")
        self.comes(("one", 0, 5), "case tag b 5 a x tag c 0 x x")


class Numbers(Machine):
    def test_one_def_used_at_many_rows(self):
        getb = "getb fn r get b r"
        rows = ("with b 1 empty", "with a 9 with b 2 empty", "with c 8 with a 9 with b 3 empty")
        self.at_each(recs(1, 2, 3), getb, rows)
        self.at_each(recs(recs(7), recs(9, 7), recs(9, 7, 8)), "putb fn r put b 7 r", rows)
        self.at_each(recs(recs(), recs(9), recs(9, 8)), "lessb fn r less b r", rows)
        rows = ("empty", "with a 9 empty", "with c 8 with a 9 empty")
        self.at_each(recs(recs(7), recs(9, 7), recs(9, 7, 8)), "withb fn r with b 7 r", rows)

    def at_each(self, value, line, rows):
        name = line.split(" ")[0]
        fields = [f"with {label} do {name} {some}" for label, some in zip("pqr", rows)]
        self.comes(value, line, " ".join([*fields, "empty"]))

    def test_numbers_handed_on_through_several_defs(self):
        defs = ("getc fn r get c r", "f fn r do getc with b 2 r", "g fn r do f with a 1 r")
        self.comes(3, *defs, "do g with c 3 empty", steps=6)
        self.comes(3, *defs, "do g with d 4 with c 3 with bb 5 with aa 6 empty", steps=6)
        self.comes(3, *defs, "do f with a 0 with c 3 with d 4 empty", steps=4)
        self.comes(3, *defs, "do getc with a 0 with b 0 with c 3 with d 4 empty", steps=2)

    def test_a_def_that_uses_itself_hands_its_numbers_on(self):
        down = "down fn r if get b r + 1 do down put b - get b r 1 r get c r"
        self.comes(15, down, "do down with b 5 with c 10 empty")
        self.comes(15, down, "do down with b 5 with c 10 with a 1 with bb 2 with d 3 empty")

    def test_a_function_keeps_the_numbers_of_its_def(self):
        defs = ("later fn u fn r get b r", "apply fn f fn r do f r")
        self.comes(2, *defs, "do do later 1 with a 1 with b 2 empty")
        self.comes(2, *defs, "do do apply do later 1 with b 2 with c 3 empty")
        self.comes(2, *defs, "do do apply do later 1 with aa 0 with a 1 with b 2 with c 3 empty")
        inner = "pick fn r fn u get b r"
        both = "do fn f do fn g with p do f 0 with q do g 0 empty"
        self.comes(recs(2, 3), inner, f"{both} do pick with b 3 with c 9 empty do pick with a 9 with b 2 empty")

    def test_two_rows_at_once(self):
        both = "both fn r fn s + * 10 get b r get c s"
        self.comes(23, both, "do do both with a 1 with b 2 empty with a 1 with b 2 with c 3 empty")
        self.comes(23, both, "do do both with b 2 with c 0 empty with c 3 with d 2 empty")
        self.comes(23, both, "do fn r do do both r r with c 3 with b 2 with a 0 with bb 9 empty")

    def test_choices_through_defs(self):
        defs = ("isb fn c case c b x x y 0", "asb fn x tag b x", "more fn c wide b c")
        self.comes(7, *defs, "do isb do asb 7")
        self.comes(0, *defs, "do isb tag a 7")
        self.comes(7, *defs, "do isb if 1 do asb 7 if 1 tag a 1 tag c 2")
        self.comes(0, *defs, "do isb if 0 do asb 7 if 1 tag a 1 tag c 2")
        self.comes(("one", 2, 7), *defs, "if 1 do more tag c 7 if 1 tag a 1 tag b 2")
        self.comes(("one", 0, 7), *defs, "if 1 do more tag a 7 if 1 tag c 1 tag b 2")
        self.comes(4, *defs, "case do more tag c 4 a x 1 y case y b x 2 z case z c x x u never u")

    def test_main_has_0_for_each_of_its_parameters(self):
        program = program_of("main tag b 1")
        self.assertEqual(made(program)[0][1], 1)
        self.comes(("one", 0, 1), "tag b 1")
        self.comes(("one", 1, 1), "if 1 tag b 1 tag a 2")
        self.comes(recs(("one", 0, 1), ("one", 0, 2)), "with p tag b 1 with q tag c 2 empty")
        self.comes(("one", 0, 1), "f fn n if n tag b 1 tag b 2", "do f 1")

    def test_rows_inside_that_count_as_shut(self):
        self.comes(3, "case tag a 1 b x 2 y 3")
        self.comes(2, "case tag b 1 b x 2 y 3")
        self.comes(3, "choice tag b 1", "case choice a x 2 y 3")
        self.comes(1, "choice tag b 1", "case choice a x 2 y case y b x x y 3")


class Steps(Machine):
    def test_no_steps(self):
        self.assertEqual(run_made(made(program_of("main + 1 2")), 0), ("value", 0, 3))
        self.assertEqual(run_made(made(program_of("main do fn x x 1")), 0), ("tired", 0, None))
        self.assertEqual(run_made(made(program_of("f 1", "main f")), 0), ("tired", 0, None))

    def test_just_enough_and_one_fewer(self):
        code = made(program_of("f fn n if n do f - n 1 7", "main do f 100"))
        for most in range(202):
            self.assertEqual(run_made(code, most), ("tired", most, None))
        for most in (202, 203, 1000):
            self.assertEqual(run_made(code, most), ("value", 202, 7))

    def test_uses_that_wait_within_one_another(self):
        for around in (
            "+ 1 {}", "+ {} 1", "- {} 1", "* 1 {}", "< {} 1", "if {} 1 2", "do fn x x {}", "do if {} fn x x fn x 1 2",
            "with a get a {} empty", "get a with a {} empty", "less a with a 1 {}", "get b put a {} with b 1 with a 2 empty",
            "put a 1 with a 2 less a {}", "case tag a {} a x x y never y", "case wide a {} a x x y y", "never {}",
            "case {} a x tag a x y tag a 1",
        ):
            code = made(program_of("main " + around.format("main")))
            for most in (0, 1, 999, 1000):
                with self.subTest(around=around, most=most):
                    self.assertEqual(run_made(code, most), ("tired", most, None))

    def test_calls_that_wait_in_each_word(self):
        for word in WAITING:
            program = waiting(word, 498)
            with self.subTest(waits=word):
                code = made(program)
                told = run_made(code, 1000)
                self.assertEqual(told[0], "value")
                self.assertIn(told[1], range(990, 1001))
                self.as_plain(program, code, told)

    def test_a_thousand(self):
        code = made(program_of("f fn n if n + 1 do f - n 1 0", "main do f 499"))
        self.assertEqual(run_made(code, 1000), ("value", 1000, 499))


class ReadBy(unittest.TestCase):
    def read(self, kind, told, value):
        with self.subTest(kind=kind, told=told):
            self.assertEqual(read_by(kind_of(kind), told), value)

    def test_num_and_fun(self):
        self.read("num", 0, 0)
        self.read("num", 999999, 999999)
        self.read("fun num num", FN, FN)
        self.read("fun rec ( a k0 | r1 ) k0", FN, FN)

    def test_rec(self):
        self.read("rec ( )", recs(), ("rec", ()))
        self.read("rec ( a num )", recs(7), ("rec", (("a", 7),)))
        self.read("rec ( a num ab fun num num b num )", recs(7, FN, 8), ("rec", (("a", 7), ("ab", FN), ("b", 8))))
        self.read("rec ( a rec ( b num ) c rec ( ) )", recs(recs(1), recs()), ("rec", (("a", ("rec", (("b", 1),))), ("c", ("rec", ())))))

    def test_one(self):
        self.read("one ( a num )", ("one", 0, 7), ("one", "a", 7))
        for at, label in enumerate("abc"):
            self.read("one ( a num b num c num )", ("one", at, 7), ("one", label, 7))
        self.read("one ( a num b rec ( ) )", ("one", 1, recs()), ("one", "b", ("rec", ())))

    def test_rows_that_are_open(self):
        self.read("rec ( a num | r0 )", recs(7), ("rec", (("a", 7),)))
        self.read("rec ( | r0 )", recs(), ("rec", ()))
        self.read("one ( a num b num | r3 )", ("one", 1, 7), ("one", "b", 7))
        self.read("rec ( a one ( b num | r0 ) | r0 )", recs(("one", 0, 7)), ("rec", (("a", ("one", "b", 7)),)))

    def test_records_and_choices_within_one_another(self):
        self.read(
            "one ( a num b rec ( c one ( d num e rec ( f num ) | r0 ) g num ) | r1 )",
            ("one", 1, recs(("one", 1, recs(5)), 6)),
            ("one", "b", ("rec", (("c", ("one", "e", ("rec", (("f", 5),)))), ("g", 6)))),
        )
        kind = nested(NUM, 150, lambda inside: rec(a=inside))
        told = nested(1, 150, lambda inside: recs(inside))
        self.assertEqual(read_by(kind, told), nested(1, 150, lambda inside: ("rec", (("a", inside),))))
        kind = nested(NUM, 150, lambda inside: one(a=NUM, b=inside))
        told = nested(1, 150, lambda inside: ("one", 1, inside))
        self.assertEqual(read_by(kind, told), nested(1, 150, lambda inside: ("one", "b", inside)))

    def test_a_record_of_many_fields(self):
        labels = [first + second for first in "abcdefghij" for second in "abcdefghij"]
        kind = rec(**{label: NUM for label in labels[:99]})
        self.assertEqual(read_by(kind, recs(*range(99))), ("rec", tuple(zip(labels, range(99)))))

    def test_functions_within(self):
        self.assertEqual(read_by(rec(a=fun(NUM, var(0)), b=fun(NUM, NUM)), recs(FN, FN)), ("rec", (("a", FN), ("b", FN))))


class TheAskers(Machine):
    def test_what_is_handed_in_stays_as_it_was(self):
        chance = random.Random(91)
        for _ in range(40):
            code = made(let_program(chance))
            before = copy.deepcopy(code)
            first = run_made(code, 200)
            self.assertEqual(code, before)
            self.assertEqual(run_made(code, 200), first)


if __name__ == "__main__":
    unittest.main()
