"""[21], [22]: parameters, and the made program."""

import copy
import random
import unittest

from fieldrows.errors import NoKind
from fieldrows.finding import clash, schemes
from fieldrows.making import made
from fieldrows.places import places
from drawing import any_program, let_program
from programs import program_of
from refusing import Refusing

R, C = ("name", "r"), ("name", "c")


def num(n):
    return ("num", n)


def fn(name, code):
    return ("fn", name, code)


def pairs_in(code):
    """All pairs in a code, from left to right."""
    found = []
    for part in code:
        if isinstance(part, tuple) and part and not isinstance(part[0], str):
            found.extend([part] if isinstance(part[0], int) else part)
        elif isinstance(part, tuple):
            found.extend(pairs_in(part))
    return found


class Making(Refusing):
    def code(self, wanted, *defs, many=None):
        """The code of the last of these defs but main."""
        program = program_of(*defs)
        with self.subTest(defs=defs):
            told = made(program)
            self.assertEqual([name for name, params, code in told], [name for name, E in program])
            self.assertEqual(told[len(defs) - 1][2], wanted)
            for (name, params, code), scheme in zip(told, schemes(program)):
                self.assertEqual(params, len(scheme[1]))
            if many is not None:
                self.assertEqual(told[len(defs) - 1][1], many)


class WithoutOpenRows(Making):
    def test_words_without_labels_stay_as_they_are(self):
        for text, code in (
            ("5", num(5)), ("empty", ("empty",)), ("fn x x", fn("x", ("name", "x"))),
            ("do fn x x 5", ("do", fn("x", ("name", "x")), num(5))), ("if 1 2 3", ("if", num(1), num(2), num(3))),
            ("+ 1 2", ("+", num(1), num(2))), ("- 1 2", ("-", num(1), num(2))), ("* 1 2", ("*", num(1), num(2))),
            ("< 1 2", ("<", num(1), num(2))), ("fn c never c", fn("c", ("never", C))),
        ):
            self.code(code, f"it {text}", many=0)

    def test_records(self):
        ab = ("with", (0, None), num(1), ("with", (0, None), num(2), ("empty",)))
        self.code(ab, "it with a 1 with b 2 empty", many=0)
        self.code(("with", (1, None), num(1), ("with", (0, None), num(2), ("empty",))), "it with b 1 with a 2 empty")
        self.code(("get", (0, None), ab), "it get a with a 1 with b 2 empty")
        self.code(("get", (1, None), ab), "it get b with a 1 with b 2 empty")
        self.code(("put", (0, None), num(3), ab), "it put a 3 with a 1 with b 2 empty")
        self.code(("put", (1, None), num(3), ab), "it put b 3 with a 1 with b 2 empty")
        self.code(("less", (0, None), ab), "it less a with a 1 with b 2 empty")
        self.code(("less", (1, None), ab), "it less b with a 1 with b 2 empty")
        self.code(("with", (1, None), num(3), ab), "it with ab 3 with a 1 with b 2 empty")
        self.code(("with", (2, None), num(3), ab), "it with c 3 with a 1 with b 2 empty")

    def test_choices_that_are_shut(self):
        self.code(
            fn("c", ("case", C, (0, None), "x", num(1), "c", ("case", C, (0, None), "x", num(2), "c", ("never", C)))),
            "it fn c case c a x 1 c case c b x 2 c never c", many=0,
        )
        self.code(
            fn("c", ("case", C, (1, None), "x", num(1), "c", ("case", C, (0, None), "x", num(2), "c", ("never", C)))),
            "it fn c case c b x 1 c case c a x 2 c never c", many=0,
        )

    def test_pairs_are_numbers_and_none_alone(self):
        program = program_of(
            "f fn c case c b x x c case c a x x c never c",
            "g fn n if n do f tag a n do f wide b tag a 2",
            "main do g get c with c 1 empty",
        )
        for name, many, code in made(program):
            self.assertEqual(many, 0)
            self.assertTrue(all(param is None for n, param in pairs_in(code)))


class OpenRows(Making):
    def test_each_word_with_one_open_row(self):
        self.code(fn("r", ("get", (0, 0), R)), "it fn r get a r", many=1)
        self.code(fn("r", ("with", (0, 0), num(1), R)), "it fn r with a 1 r", many=1)
        self.code(fn("r", ("put", (0, 0), num(1), R)), "it fn r put a 1 r", many=1)
        self.code(fn("r", ("less", (0, 0), R)), "it fn r less a r", many=1)
        self.code(("tag", (0, 0), num(1)), "it tag a 1", many=1)
        self.code(fn("c", ("wide", (0, 0), C)), "it fn c wide a c", many=1)
        self.code(fn("c", ("case", C, (0, 0), "x", num(1), "y", num(2))), "it fn c case c a x 1 y 2", many=1)

    def test_fields_beside_the_open_row(self):
        """One more for each field with a lesser label; the parameter is that of the label."""
        self.code(fn("r", ("+", ("get", (1, 1), R), ("get", (0, 0), R))), "it fn r + get b r get a r", many=2)
        self.code(fn("r", ("with", (1, 1), num(1), ("with", (0, 0), num(2), R))), "it fn r with b 1 with a 2 r", many=2)
        self.code(fn("r", ("with", (0, 0), num(1), ("with", (0, 1), num(2), R))), "it fn r with a 1 with b 2 r", many=2)
        self.code(fn("r", ("put", (0, 0), num(1), ("put", (1, 1), num(2), R))), "it fn r put a 1 put b 2 r", many=2)
        self.code(fn("r", ("less", (0, 0), ("less", (1, 1), R))), "it fn r less a less b r", many=2)
        self.code(fn("r", ("less", (0, 1), ("less", (0, 0), R))), "it fn r less b less a r", many=2)
        self.code(("if", num(1), ("tag", (1, 1), num(1)), ("tag", (0, 0), num(2))), "it if 1 tag b 1 tag a 2", many=2)
        self.code(fn("c", ("wide", (1, 1), ("wide", (0, 0), C))), "it fn c wide b wide a c", many=2)
        self.code(fn("c", ("wide", (0, 0), ("wide", (0, 1), C))), "it fn c wide a wide b c", many=2)
        self.code(
            fn("c", ("case", C, (1, 1), "x", num(1), "c", ("case", C, (0, 0), "x", num(2), "c", num(3)))),
            "it fn c case c b x 1 c case c a x 2 c 3", many=2,
        )
        self.code(
            fn("c", ("case", C, (0, 0), "x", num(1), "c", ("case", C, (0, 1), "x", num(2), "c", num(3)))),
            "it fn c case c a x 1 c case c b x 2 c 3", many=2,
        )

    def test_two_open_rows(self):
        s = ("name", "s")
        self.code(
            fn("r", fn("s", ("+", ("get", (0, 2), s), ("+", ("get", (1, 1), R), ("get", (0, 0), R))))),
            "it fn r fn s + get a s + get b r get a r", many=3,
        )
        self.code(
            fn("r", fn("s", ("with", (0, 0), ("less", (0, 1), s), R))), "it fn r fn s with b less b s r", many=2
        )
        self.code(
            fn("r", fn("c", ("case", C, (0, 1), "x", ("put", (0, 0), num(1), R), "y", R))),
            "it fn r fn c case c b x put a 1 r y r", many=2,
        )
        self.code(
            fn("c", fn("r", ("if", num(1), ("tag", (0, 0), ("get", (0, 1), R)), ("wide", (0, 0), C)))),
            "it fn c fn r if 1 tag b get b r wide b c", many=2,
        )

    def test_parameters_in_the_order_of_the_lacks(self):
        program = program_of("it fn r fn s with b with d 1 s with a 1 with c 1 r")
        self.assertEqual(schemes(program)[0][1], [(0, "a"), (0, "b"), (0, "c"), (1, "d")])
        s = ("name", "s")
        inner = ("with", (0, 0), num(1), ("with", (0, 2), num(1), R))
        self.code(
            fn("r", fn("s", ("with", (1, 1), ("with", (0, 3), num(1), s), inner))),
            "it fn r fn s with b with d 1 s with a 1 with c 1 r", many=4,
        )

    def test_lacks_that_show_nowhere_in_the_kind(self):
        self.code(fn("r", ("less", (0, 0), ("with", (0, 0), num(1), R))), "it fn r less a with a 1 r", many=1)
        self.code(
            fn("r", ("less", (1, 1), ("with", (1, 1), num(1), ("with", (0, 0), num(2), R)))),
            "it fn r less b with b 1 with a 2 r", many=2,
        )

    def test_open_rows_that_are_not_in_the_scheme_count_as_shut(self):
        self.code(
            ("case", ("tag", (0, None), num(1)), (1, None), "x", num(2), "y", num(3)), "it case tag a 1 b x 2 y 3", many=0
        )
        self.code(
            ("case", ("tag", (1, None), num(1)), (0, None), "x", num(2), "y", num(3)), "it case tag b 1 a x 2 y 3", many=0
        )
        self.code(
            ("do", fn("f", num(1)), fn("r", ("get", (1, None), ("with", (0, None), num(2), R)))),
            "it do fn f 1 fn r get b with a 2 r", many=0,
        )
        # Of two open rows the one is in the scheme and the other is not.
        self.code(
            fn("r", ("do", fn("u", ("get", (0, 0), R)), ("wide", (0, None), ("tag", (0, None), num(1))))),
            "it fn r do fn u get a r wide a tag b 1", many=1,
        )


class Uses(Making):
    GETB = "getb fn r get b r"

    def use(self, name, *pairs):
        return ("use", name, pairs)

    def test_a_def_without_parameters(self):
        self.code(("+", self.use("f"), self.use("f")), "f 1", "it + f f", many=0)

    def test_bound_names_that_are_called_like_defs(self):
        self.code(fn("f", ("name", "f")), "f 1", "it fn f f")
        self.code(("do", fn("f", ("name", "f")), self.use("f")), "f 1", "it do fn f f f")
        self.code(fn("it", ("name", "it")), "it fn it it")
        case = ("case", C, (0, 0), "f", ("name", "f"), "y", self.use("f"))
        self.code(fn("c", case), "f 1", "it fn c case c a f f y f")
        case = ("case", C, (0, 0), "y", self.use("f"), "f", ("do", fn("u", num(1)), ("name", "f")))
        self.code(fn("c", case), "f 1", "it fn c case c a y f f do fn u 1 f")

    def test_at_rows_with_lesser_and_greater_fields(self):
        def record(*labels):
            code = ("empty",)
            for at in range(len(labels) - 1, -1, -1):
                ahead = sum(other < labels[at] for other in labels[at + 1:])
                code = ("with", (ahead, None), num(1), code)
            return code

        for labels, many in (("b", 0), ("ba", 1), ("bc", 0), ("abc", 1), ("cba", 1), ("bcd", 0), (("a", "aa", "b", "ba"), 2)):
            text = " ".join(f"with {label} 1" for label in labels)
            self.code(("do", self.use("getb", (many, None)), record(*labels)), self.GETB, f"it do getb {text} empty", many=0)

    def test_at_a_row_that_is_open_in_the_using_def(self):
        self.code(self.use("getb", (0, 0)), self.GETB, "it getb", many=1)
        self.code(fn("r", ("do", self.use("getb", (0, 0)), R)), self.GETB, "it fn r do getb r", many=1)
        code = ("do", self.use("getb", (1, 1)), ("with", (0, 0), num(1), R))
        self.code(fn("r", code), self.GETB, "it fn r do getb with a 1 r", many=2)
        code = ("do", self.use("getb", (0, 0)), ("with", (1, 1), num(1), R))
        self.code(fn("r", code), self.GETB, "it fn r do getb with c 1 r", many=2)
        code = ("+", ("get", (0, 0), R), ("do", self.use("getb", (1, 1)), R))
        self.code(fn("r", code), self.GETB, "it fn r + get a r do getb r", many=2)

    def test_at_a_row_that_counts_as_shut(self):
        choice = "choice tag b 1"
        self.code(("case", self.use("choice", (0, None)), (0, None), "x", num(1), "y", num(2)), choice, "it case choice b x 1 y 2")
        self.code(("case", self.use("choice", (1, None)), (0, None), "x", num(1), "y", num(2)), choice, "it case choice a x 1 y 2")
        self.code(("do", fn("u", num(1)), self.use("getb", (0, None))), self.GETB, "it do fn u 1 getb", many=0)
        self.code(self.use("choice", (0, 0)), choice, "it choice", many=1)

    def test_defs_of_several_parameters(self):
        two = "two fn r + get a r get c r"
        shut = ("with", (0, None), num(1), ("with", (1, None), num(2), ("with", (0, None), num(3), ("empty",))))
        self.code(("do", self.use("two", (0, None), (1, None)), shut), two, "it do two with a 1 with c 2 with b 3 empty")
        self.code(fn("r", ("do", self.use("two", (0, 0), (0, 1)), R)), two, "it fn r do two r", many=2)
        code = ("do", self.use("two", (0, 0), (1, 2)), ("with", (1, 1), num(3), R))
        self.code(fn("r", code), two, "it fn r do two with b 3 r", many=3)
        rows = "rows fn r fn s + get a r get b s"
        code = ("do", ("do", self.use("rows", (0, 1), (0, 0)), ("name", "s")), R)
        self.code(fn("r", fn("s", code)), rows, "it fn r fn s do do rows s r", many=2)
        code = ("do", ("do", self.use("rows", (0, 0), (1, 1)), R), R)
        self.code(fn("r", code), rows, "it fn r do do rows r r", many=2)

    def test_one_def_at_many_rows(self):
        lesser, greater = "do getb with a 2 with b 1 empty", "do getb with c 1 with b 2 empty"
        program = program_of(self.GETB, f"main + do getb with b 1 empty + {lesser} {greater}")
        self.assertEqual(self.uses(made(program)[-1][2]), [self.use("getb", (0, None)), self.use("getb", (1, None)), self.use("getb", (0, None))])

    def uses(self, code):
        if code[0] == "use":
            return [code]
        return [use for part in code if isinstance(part, tuple) and isinstance(part[0], str) for use in self.uses(part)]

    def test_the_def_itself(self):
        self.code(self.use("it"), "it it", many=0)
        self.code(fn("x", ("do", self.use("it"), ("name", "x"))), "it fn x do it x", many=0)
        code = ("if", ("get", (0, 0), R), ("do", self.use("it", (0, 0)), ("put", (0, 0), num(0), R)), R)
        self.code(fn("r", code), "it fn r if get a r do it put a 0 r r", many=1)
        code = ("if", ("get", (1, 1), R), ("do", self.use("it", (0, 0), (0, 1)), ("put", (0, 0), num(0), R)), R)
        self.code(fn("r", code), "it fn r if get b r do it put a 0 r r", many=2)
        same = ("less", (1, 2), ("with", (1, 2), num(1), ("name", "s")))
        code = ("do", ("do", self.use("it", (0, 0), (0, 1), (0, 2)), ("put", (0, 0), num(1), R)), same)
        self.code(
            fn("r", fn("s", ("if", ("get", (0, 1), ("name", "s")), code, num(1)))),
            "it fn r fn s if get a s do do it put a 1 r less b with b 1 s 1", many=3,
        )

    def test_a_use_within_a_use(self):
        # The inner record's row stands ahead of the outer one's tail in the kind.
        code = ("do", self.use("getb", (0, 0)), ("do", self.use("getb", (0, 1)), R))
        self.code(fn("r", code), self.GETB, "it fn r do getb do getb r", many=2)


class Refusals(Making):
    def test_programs_that_are_not_let(self):
        for defs in (("main + empty 1",), ("f get a 1", "main 0"), ("f 1", "main do f 1"), ("it fn x do x x",)):
            self.refused(made, program_of(*defs), NoKind)

    def test_any_programs(self):
        chance = random.Random(81)
        for _ in range(300):
            program = any_program(chance, 3)
            if clash(program) is None:
                self.assertEqual(len(made(program)), len(program))
            else:
                self.refused(made, program, NoKind)


class TheForm(Making):
    """Code is as the expression, but for labels and the names of defs."""

    def test_drawn_at_will(self):
        chance = random.Random(82)
        for _ in range(120):
            program = let_program(chance)
            many = {name: len(lacks) for (name, E), (K, lacks) in zip(program, schemes(program))}
            told = made(program)
            self.assertIsInstance(told, list)
            for (name, params, code), (other, E) in zip(told, program):
                self.assertEqual((name, params), (other, many[name]))
                self.alike(code, E, many, many[name])

    def alike(self, code, E, many, own):
        if code[0] == "use":
            self.assertEqual(E, ("name", code[1]))
            self.assertEqual(len(code[2]), many[code[1]])
            for pair in code[2]:
                self.a_pair(pair, own)
            return
        self.assertEqual((code[0], len(code)), (E[0], len(E)))
        for at, (part, other) in enumerate(zip(code, E)):
            if isinstance(other, tuple):
                self.alike(part, other, many, own)
            elif at == {"case": 2, "fn": 0, "name": 0, "num": 0}.get(E[0], 1) and at:
                self.a_pair(part, own)
            else:
                self.assertEqual(part, other)

    def a_pair(self, pair, own):
        self.assertIsInstance(pair, tuple)
        number, param = pair
        self.assertTrue(isinstance(number, int) and number >= 0)
        self.assertTrue(param is None or 0 <= param < own)


class TheAskers(Making):
    def test_what_is_handed_in_stays_as_it_was(self):
        chance = random.Random(83)
        for _ in range(30):
            program = let_program(chance)
            before = copy.deepcopy(program)
            first = made(program)
            self.assertEqual(program, before)
            again = copy.deepcopy(first)
            first.append(None)
            self.assertEqual(made(program), again)


if __name__ == "__main__":
    unittest.main()
