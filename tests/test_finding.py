"""[17], [18]: the rules of places, a def's scheme, and each place's kind inside."""

import copy
import random
import unittest

from fieldrows.errors import NoKind
from fieldrows.finding import clash, inside, schemes
from fieldrows.kinds import parts
from fieldrows.places import places
from fieldrows.schemes import named, stands_for
from forms import NUM, fun, kind_of, one, rec, scheme_of
from drawing import any_expression, any_program, let_program
from programs import SIZES, of_parts, program_of, sized_defs
from refusing import Refusing
from rules import World, broken_rules


FEW = (NUM, rec(), rec(a=NUM), one(a=NUM), rec(b=NUM), one(b=NUM), one(a=NUM, b=NUM), rec(a=NUM, b=NUM), one())
FUNS = tuple(fun(first, second) for first in FEW[:5] for second in FEW[:4])
SMALL = (*FEW, *FUNS, rec(a=rec()), one(a=rec()))


class Finding(Refusing):
    def scheme(self, expression, wanted, *above):
        """The scheme of a def of this expression, behind these defs."""
        program = program_of(*above, f"it {expression}")
        with self.subTest(above=above, expression=expression):
            self.assertEqual(schemes(program)[len(above)], scheme_of(wanted))
            self.kept(program)

    def kept(self, program):
        """The told kinds keep the rules, and the schemes are those of the first places."""
        found = schemes(program)
        self.assertEqual(len(found), len(program))
        above = {}
        for k, (name, E) in enumerate(program):
            kinds, lacks = inside(program, k)
            self.assertEqual(len(kinds), len(places(E)))
            self.assertEqual(broken_rules(name, E, above, kinds, lacks), [], (program, k))
            self.assertEqual((kinds[0], found[k][1]), (found[k][0], named(kinds[0], lacks)[1]))
            self.assertEqual(named(kinds[0], lacks), found[k])
            above[name] = found[k]

    def none(self, *defs):
        """The last of these defs has no kinds, while those above have."""
        program = program_of(*defs)
        with self.subTest(defs=defs):
            k = len(defs) - 1
            self.assertEqual(clash(program)[0], program[k][0])
            self.refused(schemes, program, NoKind)
            self.refused(lambda some: inside(some, k), program, NoKind)
            for above in range(k):
                self.assertEqual(len(inside(program, above)[0]), len(places(program[above][1])))


class EachWord(Finding):
    def test_num(self):
        self.scheme("0", "num")
        self.scheme("999999", "num")
        self.none("it do 5 5")

    def test_bound_names(self):
        self.scheme("fn x x", "fun k0 k0")
        self.scheme("fn x fn y x", "fun k0 fun k1 k0")
        self.scheme("fn x fn y y", "fun k0 fun k1 k1")
        self.scheme("fn x fn y if x y 0", "fun num fun num num")
        self.none("it fn x if x x empty")

    def test_names_bound_within_one_another_and_called_alike(self):
        self.scheme("fn x fn x x", "fun k0 fun k1 k1")
        self.scheme("fn x fn x + x 1", "fun k0 fun num num")
        self.scheme("fn x do fn x get a x with a x empty", "fun k0 k0")
        self.scheme("fn x do fn y do fn x get a x y with a + x 1 empty", "fun num num")
        self.scheme("fn x case tag a empty a x x y less b with b x empty", "fun k0 rec ( )")
        self.scheme("fn c case c a c + c 1 c case c b c c c never c", "fun one ( a num b num ) num")
        self.scheme("fn a get a a", "fun rec ( a k0 | r1 ) k0 where r1 a")

    def test_names_bound_and_called_like_defs(self):
        self.scheme("fn it + it 1", "fun num num")
        self.scheme("fn f get a f", "fun rec ( a k0 | r1 ) k0 where r1 a", "f 1")
        self.scheme("do fn f + f 1 f", "num", "f 1")
        self.scheme("fn c case c a f get b f y f", "fun one ( a rec ( b num | r0 ) | r1 ) num where r0 b r1 a", "f 1")
        self.scheme("fn c case c a x f f f", "fun one ( a k0 | r1 ) one ( | r1 ) where r1 a", "f f")

    def test_bound_names_have_one_kind(self):
        self.none("it fn f do fn u do f empty do f 1")
        self.none("it do fn f do fn u do f empty do f 1 fn x x")
        self.none("it case tag a fn x x a f do fn u do f empty do f 1 y 0")
        self.none("it fn r + get a r get b get a r")

    def test_fn_and_do(self):
        self.scheme("fn f fn x do f x", "fun fun k0 k1 fun k0 k1")
        self.scheme("fn f fn x do f do f x", "fun fun k0 k0 fun k0 k0")
        self.scheme("fn f fn g fn x do f do g x", "fun fun k0 k1 fun fun k2 k0 fun k2 k1")
        self.scheme("do fn x x 5", "num")
        self.scheme("do fn x fn y x 5", "fun k0 num")
        self.none("it do empty 5")
        self.none("it do fn x + x 1 empty")
        self.none("it fn x do x x")

    def test_empty(self):
        self.scheme("empty", "rec ( )")
        self.none("it + empty 1")
        self.none("it get a empty")

    def test_get(self):
        self.scheme("fn r get a r", "fun rec ( a k0 | r1 ) k0 where r1 a")
        self.scheme("fn r + get a r get b r", "fun rec ( a num b num | r0 ) num where r0 a r0 b")
        self.scheme("fn r get a get b r", "fun rec ( b rec ( a k0 | r1 ) | r2 ) k0 where r1 a r2 b")
        self.scheme("get a with a 1 empty", "num")
        self.none("it get b with a 1 empty")
        self.none("it get a tag a 1")
        self.none("it get a 1")

    def test_with(self):
        self.scheme("fn r with a 1 r", "fun rec ( | r0 ) rec ( a num | r0 ) where r0 a")
        self.scheme("fn e fn r with a e r", "fun k0 fun rec ( | r1 ) rec ( a k0 | r1 ) where r1 a")
        self.scheme("with b 1 with a empty empty", "rec ( a rec ( ) b num )")
        self.scheme("fn r with b 1 with a 2 r", "fun rec ( | r0 ) rec ( a num b num | r0 ) where r0 a r0 b")
        self.none("it with a 1 with a 1 empty")
        self.none("it fn r with a 1 with a 1 r")
        self.none("it with a 1 2")
        self.none("it fn r + get a r get a with a 1 r")

    def test_put(self):
        self.scheme("fn r put a 1 r", "fun rec ( a k0 | r1 ) rec ( a num | r1 ) where r1 a")
        self.scheme("fn e fn r put a e r", "fun k0 fun rec ( a k1 | r2 ) rec ( a k0 | r2 ) where r2 a")
        self.scheme("fn r put a + 1 get a r r", "fun rec ( a num | r0 ) rec ( a num | r0 ) where r0 a")
        self.scheme("put a empty with a 1 empty", "rec ( a rec ( ) )")
        self.none("it put a 1 empty")
        self.none("it put a 1 with b 1 empty")
        self.none("it put a 1 tag a 1")

    def test_less(self):
        self.scheme("fn r less a r", "fun rec ( a k0 | r1 ) rec ( | r1 ) where r1 a")
        self.scheme("less a with b 1 with a 2 empty", "rec ( b num )")
        self.scheme("fn r less b less a r", "fun rec ( a k0 b k1 | r2 ) rec ( | r2 ) where r2 a r2 b")
        self.none("it less a empty")
        self.none("it get a less a with a 1 empty")
        self.none("it fn r less a less a r")

    def test_tag(self):
        self.scheme("tag a 1", "one ( a num | r0 ) where r0 a")
        self.scheme("fn x tag a x", "fun k0 one ( a k0 | r1 ) where r1 a")
        self.scheme("tag a tag a 1", "one ( a one ( a num | r0 ) | r1 ) where r0 a r1 a")
        self.scheme("fn x if x tag a 1 tag b empty", "fun num one ( a num b rec ( ) | r0 ) where r0 a r0 b")
        self.none("it fn x if x tag a 1 tag a empty")
        self.none("it + 1 tag a 1")

    def test_wide(self):
        self.scheme("fn c wide a c", "fun one ( | r0 ) one ( a k1 | r0 ) where r0 a")
        self.scheme("wide b tag a 1", "one ( a num b k0 | r1 ) where r1 a r1 b")
        self.scheme("fn c wide b wide a c", "fun one ( | r0 ) one ( a k1 b k2 | r0 ) where r0 a r0 b")
        self.none("it wide a tag a 1")
        self.none("it wide a empty")
        self.none("it wide a wide a tag b 1")

    def test_case(self):
        self.scheme("fn c case c a x x y 0", "fun one ( a num | r0 ) num where r0 a")
        self.scheme("fn c case c a x x y never y", "fun one ( a k0 ) k0")
        self.scheme("fn c case c a x x y case y b x x y never y", "fun one ( a k0 b k0 ) k0")
        self.scheme("fn c fn f case c a x x y do f y", "fun one ( a k0 | r1 ) fun fun one ( | r1 ) k0 k0 where r1 a")
        self.scheme("fn c case c a x tag a + x 1 y wide a y", "fun one ( a num | r0 ) one ( a num | r0 ) where r0 a")
        self.scheme("fn c case c a x tag b x y y", "fun one ( a k0 b k0 | r1 ) one ( b k0 | r1 ) where r1 a r1 b")
        self.scheme("case tag a 1 b x x y 0", "num")
        self.none("it case tag a 1 a x x y empty")
        self.none("it case tag a empty a x x y 0")
        self.none("it case 1 a x x y 0")
        self.none("it case empty a x 0 y 0")
        self.none("it fn c case c a x 0 y case y a x 0 y 0")
        self.none("it case tag b 1 a x 0 y never y")

    def test_never(self):
        self.scheme("fn c never c", "fun one ( ) k0")
        self.scheme("fn c + 1 never c", "fun one ( ) num")
        self.none("it never tag a 1")
        self.none("it never 1")
        self.none("it never empty")

    def test_if(self):
        self.scheme("fn n fn x fn y if n x y", "fun num fun k0 fun k0 k0")
        self.scheme("fn x if 1 x 0", "fun num num")
        self.scheme("fn x if 1 0 x", "fun num num")
        self.none("it if empty 1 2")
        self.none("it if 1 1 empty")

    def test_workings(self):
        for word in "+-*<":
            self.scheme(f"fn x fn y {word} x y", "fun num fun num num")
            self.none(f"it {word} 1 empty")
            self.none(f"it {word} empty 1")
            self.none(f"it get a {word} 1 1")


class Defs(Finding):
    def test_the_def_itself_at_one_kind(self):
        self.scheme("it", "k0")
        self.scheme("fn x do it x", "fun k0 k1")
        self.scheme("fn x fn y do do it y x", "fun k0 fun k0 k1")
        self.scheme("fn n if n * n do it - n 1 1", "fun num num")
        self.scheme(
            "fn r if get a r do it put a - get a r 1 r r", "fun rec ( a num | r0 ) rec ( a num | r0 ) where r0 a"
        )
        self.none("it fn x it")
        self.none("it fn x if do it 1 1 do it empty")
        self.none("it fn r do it with a 1 r")
        self.none("it fn r if 0 do it put a empty r + 1 get a r")

    def test_a_def_above_each_time_anew(self):
        same, geta = "same fn x x", "geta fn r get a r"
        self.scheme("same", "fun k0 k0", same)
        self.scheme("fn x do same x", "fun k0 k0", same)
        self.scheme("do do same same do same 5", "num", same)
        self.scheme("with b do same 1 with a do same empty empty", "rec ( a rec ( ) b num )", same)
        self.scheme("fn f do same same", "fun k0 fun k1 k1", same)
        self.scheme("geta", "fun rec ( a k0 | r1 ) k0 where r1 a", geta)
        self.scheme("+ do geta with a 1 empty do geta with b 2 with a 1 empty", "num", geta)
        self.scheme("+ get b do geta with a with b 1 empty empty do geta with c 3 with a 1 empty", "num", geta)
        self.scheme("fn r do geta do geta r", "fun rec ( a rec ( a k0 | r1 ) | r2 ) k0 where r1 a r2 a", geta)
        self.none(geta, "it do geta empty")
        self.none(geta, "it do geta with b 1 empty")
        self.none(geta, "it fn r + get a r do geta do geta r")

    def test_defs_above_that_are_no_functions(self):
        self.scheme("one", "num", "one 1")
        self.scheme("choice", "one ( a num | r0 ) where r0 a", "choice tag a 1")
        self.scheme("if case choice b x 0 y 1 case choice c x x y 1 2", "num", "choice tag a 1")
        self.scheme("+ loop get a loop", "num", "loop loop")
        self.none("one 1", "it do one 1")

    def test_lacks_of_a_used_def(self):
        wa, wb = "wa fn r with a 1 r", "wb fn r with b 2 do wa r"
        self.scheme("fn r with b 2 do wa r", "fun rec ( | r0 ) rec ( a num b num | r0 ) where r0 a r0 b", wa)
        self.scheme("fn r with c 3 do wb r", "fun rec ( | r0 ) rec ( a num b num c num | r0 ) where r0 a r0 b r0 c", wa, wb)
        self.none(wa, wb, "it fn r with a 3 do wb r")
        self.none(wa, wb, "it do wa do wb empty")
        self.none(wa, wb, "it do wb with b 1 empty")
        self.none(wa, wb, "it do wb with a 1 empty")
        self.none(wa, wb, "it fn r + get a r get b do wb r")

    def test_lacks_that_show_nowhere_in_the_kind(self):
        aside = "aside fn r less a with a 1 r"
        self.scheme("fn r less a with a 1 r", "fun rec ( | r0 ) rec ( | r0 ) where r0 a")
        self.scheme("fn r less b less a with a 1 with b 1 r", "fun rec ( | r0 ) rec ( | r0 ) where r0 a r0 b")
        self.scheme("fn r do fn u r with b 1 with a 1 r", "fun rec ( | r0 ) rec ( | r0 ) where r0 a r0 b")
        self.scheme("aside", "fun rec ( | r0 ) rec ( | r0 ) where r0 a", aside)
        self.scheme("fn r get b do aside r", "fun rec ( b k0 | r1 ) k0 where r1 a r1 b", aside)
        self.scheme("do aside with b 1 empty", "rec ( b num )", aside)
        self.none(aside, "it do aside with a 1 empty")
        self.none(aside, "it fn r + get a r get b do aside r")
        self.none(aside, "it fn r get a do aside r")

    def test_lacks_of_two_open_rows(self):
        self.scheme(
            "fn r fn s with b with d 1 s with a 1 with c 1 r",
            "fun rec ( | r0 ) fun rec ( | r1 ) rec ( a num b rec ( d num | r1 ) c num | r0 ) where r0 a r0 b r0 c r1 d",
        )
        self.scheme(
            "fn c fn s case c b x less a with a x s y s",
            "fun one ( b k0 | r1 ) fun rec ( | r2 ) rec ( | r2 ) where r1 b r2 a",
        )

    def test_lacks_are_told_sorted_and_each_once(self):
        self.scheme(
            "fn r fn s do fn u less b with b 1 s with a 1 r",
            "fun rec ( | r0 ) fun rec ( | r1 ) rec ( | r1 ) where r0 a r1 b",
        )
        self.scheme(
            "fn r do fn u do fn u do fn u with c 1 r with a 1 r with ab 1 r with a 2 r",
            "fun rec ( | r0 ) rec ( c num | r0 ) where r0 a r0 ab r0 c",
        )

    def test_rows_that_are_shut_in_the_end(self):
        self.scheme("do fn r with b 2 r with a 1 empty", "rec ( a num b num )")
        self.scheme("fn r do fn u r if 1 empty r", "fun rec ( ) rec ( )")

    def test_a_scheme_for_each_def(self):
        program = program_of("a fn x x", "b do a 1", "c fn r get a r", "main do c with a a empty")
        texts = ("fun k0 k0", "num", "fun rec ( a k0 | r1 ) k0 where r1 a", "fun k0 k0")
        self.assertEqual(schemes(program), [scheme_of(text) for text in texts])
        self.kept(program)

    def test_twelve_defs(self):
        lines = ["a fn r with a 1 r"]
        for above, name in zip("abcdefghij", "bcdefghijk"):
            lines.append(f"{name} fn r do {above} with {name} 1 r")
        program = program_of(*lines, "main do k empty")
        self.assertEqual(len(program), 12)
        fields = " ".join(f"{name} num" for name in "abcdefghijk")
        lacks = " ".join(f"r0 {name}" for name in "abcdefghijk")
        self.assertEqual(schemes(program)[10], scheme_of(f"fun rec ( | r0 ) rec ( {fields} | r0 ) where {lacks}"))
        self.assertEqual(schemes(program)[11], scheme_of(f"rec ( {fields} )"))
        self.kept(program)


class Inside(Finding):
    def told(self, wanted, lacks, *defs):
        """Of the last of these defs: for each place its kind."""
        program = program_of(*defs)
        with self.subTest(defs=defs):
            self.assertEqual(inside(program, len(defs) - 1), ([kind_of(text) for text in wanted], lacks))
            self.kept(program)

    def test_each_place_in_its_order(self):
        self.told(["num"], [], "main 5")
        self.told(["num", "num", "num"], [], "main + 1 2")
        self.told(
            ["rec ( a num b rec ( ) )", "num", "rec ( b rec ( ) )", "rec ( )", "rec ( )"],
            [],
            "main with a 1 with b empty empty",
        )
        self.told(
            ["num", "fun rec ( a num ) num", "num", "rec ( a num )", "rec ( a num )", "num", "rec ( )"],
            [],
            "main do fn r get a r with a 1 empty",
        )
        self.told(
            ["fun one ( a num | r0 ) num", "num", "one ( a num | r0 )", "num", "num", "num", "num"],
            [(0, "a")],
            "it fn c case c a x + x 1 y 0",
        )

    def test_numbers_of_the_scheme_as_there_and_others_behind(self):
        self.told(
            ["fun k0 k0", "k0", "fun one ( a k0 | r1 ) k0", "k0", "one ( a k0 | r1 )", "k0"],
            [(1, "a")],
            "it fn x do fn y x tag a x",
        )
        pair = "rec ( a fun k0 k0 b fun k1 k1 )"
        self.told(
            ["num", f"fun {pair} num", "num", pair, "fun k0 k0", "k0", "rec ( b fun k1 k1 )", "fun k1 k1", "k1", "rec ( )"],
            [],
            "it do fn u 1 with a fn x x with b fn x x empty",
        )
        self.told(
            ["num", "one ( a num b num | r0 )", "num", "num", "num"], [(0, "a"), (0, "b")], "it case tag a 1 b x x y 0"
        )
        self.told(["num", "fun fun k0 k0 num", "num", "fun k0 k0", "k0"], [], "it do fn u 1 fn x x")

    def test_kinds_of_which_the_scheme_tells_less(self):
        self.told(
            ["fun rec ( a k0 | r1 ) rec ( | r1 )", "rec ( | r1 )", "rec ( a k0 | r1 )"], [(1, "a")], "it fn r less a r"
        )
        wide = "one ( a k0 b num | r1 )"
        self.told(
            ["num", f"fun {wide} num", "num", wide, "one ( b num | r1 )", "num"],
            [(1, "a"), (1, "b")],
            "it do fn u 1 wide a tag b 1",
        )

    def test_uses_of_defs_above(self):
        geta = "geta fn r get a r"
        whole = "rec ( a num b rec ( ) )"
        self.told(
            ["num", f"fun {whole} num", whole, "num", "rec ( b rec ( ) )", "rec ( )", "rec ( )"],
            [],
            geta, "main do geta with a 1 with b empty empty",
        )
        whole = "rec ( a k0 c k1 | r2 )"
        self.told(
            [f"fun {whole} k0", "k0", "fun k1 k0", "k0", f"fun {whole} k0", whole, "k1", whole],
            [(2, "a"), (2, "c")],
            geta, "it fn r do fn u do geta r get c r",
        )
        self.told(["fun k0 k0", "fun fun k0 k0 fun k0 k0", "fun k0 k0"], [], "same fn x x", "it do same same")
        self.told(["num", "num", "num"], [], "loop loop", "it + loop loop")

    def test_lacks_of_rows_that_are_not_in_the_scheme(self):
        kinds, lacks = inside(program_of("it fn r fn s do fn u less b with b 1 s with a 1 r"), 0)
        self.assertEqual(lacks, [(0, "a"), (1, "b")])
        kinds, lacks = inside(program_of("it do fn u 1 fn r with b 1 with a 1 r"), 0)
        self.assertEqual(kinds[1], kind_of("fun fun rec ( | r0 ) rec ( a num b num | r0 ) num"))
        self.assertEqual(lacks, [(0, "a"), (0, "b")])
        kinds, lacks = inside(program_of("it fn s do fn u less c with c 1 s fn r less b with b 1 with a 1 r"), 0)
        self.assertEqual(kinds[0], kind_of("fun rec ( | r0 ) rec ( | r0 )"))
        self.assertEqual(lacks, [(0, "c"), (1, "a"), (1, "b")])

    def test_each_def_of_a_program(self):
        program = program_of("f fn r get a r", "g fn r do f do f r", "main do g with a with a 7 empty empty")
        for k in range(3):
            self.assertEqual(inside(program, k)[0][0], schemes(program)[k][0])
        self.assertEqual(inside(program, 0), inside(program_of("f fn r get a r"), 0))

    def test_defs_ahead_of_one_without_kinds_still_have_theirs(self):
        program = program_of("f fn r get a r", "g do f with a 5 empty", "bad do f 5", "h f", "main 0")
        self.assertEqual(inside(program, 0), inside(program_of("f fn r get a r"), 0))
        self.assertEqual(inside(program, 1)[0][0], NUM)
        for k in (2, 3, 4):
            self.refused(lambda some: inside(some, k), program, NoKind)
        self.refused(schemes, program, NoKind)


class TwoHundredParts(Finding):
    def fits_where(self, holds, many, *defs):
        """The last def has kinds, its scheme's kind of so many parts, just where this holds."""
        if not holds:
            self.none(*defs)
            return
        program = program_of(*defs)
        with self.subTest(defs=defs):
            self.assertEqual(parts(schemes(program)[len(defs) - 1][0]), many)
            self.kept(program)

    def test_sizes_of_the_defs_that_are_used_here(self):
        for many in range(1, 102):
            told = schemes(program_of(*SIZES, f"it {of_parts(many)}"))[len(SIZES)]
            self.assertEqual(parts(told[0]), many)

    def test_as_they_stand_in_a_place(self):
        for first, second, many in ((99, 96, 199), (99, 97, 200), (99, 98, 201), (98, 99, 201), (97, 99, 200)):
            self.fits_where(many <= 200, many, *sized_defs(first, second), "it with p first with q second empty")
        for first, second, many in ((99, 99, 199), (99, 100, 200), (100, 99, 200), (100, 100, 201), (99, 101, 201)):
            defs = sized_defs(first, second)
            self.fits_where(many <= 200, many, *defs, "it fn x do fn u second if 1 x first")

    def test_as_a_used_scheme_comes_to(self):
        for first, second, many in ((98, 1, 199), (98, 2, 200), (98, 3, 201), (99, 1, 201)):
            defs = sized_defs(first, second)
            self.fits_where(many <= 200, first, *defs, "fst fn x fn y x", "it do do fst first second")
        for first, many in ((98, 197), (99, 199), (100, 201)):
            self.fits_where(many <= 200, first, *sized_defs(first, 1), "same fn x x", "it do same first")

    def test_as_the_open_row_of_a_used_scheme_comes_to(self):
        for first, second, many in ((98, 93, 199), (98, 94, 200), (98, 95, 201)):
            defs = sized_defs(first, second)
            use = "it do geta with a 1 with p first with q second empty"
            self.fits_where(many <= 200, 1, *defs, "geta fn r get a r", use)

    def test_within_though_the_scheme_is_small(self):
        for second, many in ((94, 199), (95, 200), (96, 201)):
            defs = sized_defs(99, second)
            self.fits_where(many <= 200, 1, *defs, "it get p with q first with p 1 with r second empty")

    def test_kinds_that_would_be_a_great_many(self):
        for many in (4, 5, 20, 28):
            self.fits_where(many == 4, 76, *SIZES, "it " + "do twice " * many + "1")
        self.none(*SIZES, "f fn x do twice do twice do twice x", "it fn x do f do f x")

    def test_kinds_without_an_end(self):
        self.none("it fn f do fn x do f do x x fn x do f do x x")
        self.none("it with a it empty")
        self.none("it tag a it")
        self.none("it fn x do it it")


class TheWidest(Finding):
    """Whatever kinds the places can have out of a small world, place 0's is one that the told scheme stands for."""

    def test_any_expressions(self):
        chance = random.Random(41)
        alike, none = 0, 0
        while alike + none < 250:
            E = any_expression(chance, ["it"], chance.choice([1, 2, 2, 3]))
            if not self.is_small(E):
                continue
            if self.compared([("it", E)]):
                alike += 1
            else:
                none += 1
        self.assertGreater(min(alike, none), 50)

    def test_uses_of_a_def_above(self):
        chance = random.Random(45)
        above = [
            program_of(f"f {line}")[0]
            for line in (
                "fn r get a r", "fn r with a 1 r", "fn r less a r", "fn r less b with b 1 r", "fn x tag a x", "fn c wide b c",
                "fn c case c a x x y 0", "fn x x", "tag a 1", "f",
            )
        ]
        alike, none = 0, 0
        while alike + none < 200:
            E = any_expression(chance, ["f"], chance.choice([1, 2, 2, 3]))
            if not self.is_small(E) or ("name", "f") not in places(E):
                continue
            if self.compared([chance.choice(above), ("it", E)]):
                alike += 1
            else:
                none += 1
        self.assertGreater(min(alike, none), 25)

    def is_small(self, E):
        return len(places(E)) <= 9 and sum({"fn": 1, "case": 2}.get(place[0], 0) for place in places(E)) <= 3

    def test_known_ones(self):
        for expression in (
            "fn r get a r", "fn r with b 1 r", "fn r put a empty r", "fn r less a r", "fn x tag a x", "fn c wide a c",
            "fn c case c a x x y 0", "fn c case c a x tag b x y y", "fn c never c", "fn x fn y x", "fn n if n n 1",
            "fn r do it put a 1 r", "fn r less b with b 1 r",
        ):
            self.assertTrue(self.compared(program_of(f"it {expression}")[:1]))

    def compared(self, defs):
        """Whether the last of these defs has kinds, of which the small world then tells no others."""
        name, E = defs[-1]
        above = {told[0]: scheme for told, scheme in zip(defs, schemes(defs[:-1]))}
        found = World(SMALL, above).kinds_of_def(name, E)
        try:
            scheme = schemes(defs)[-1]
        except NoKind:
            self.assertEqual(found, set(), defs)
            return False
        self.assertEqual({kind for kind in found if not stands_for(scheme, kind)}, set(), defs)
        # Each kind that it stands for can be had; that the way to it leads out of the small world is seldom.
        stood_for = {kind for kind in SMALL if stands_for(scheme, kind)}
        self.assertTrue(found == stood_for or len(places(E)) > 4, (defs, found, stood_for))
        return True


class DrawnAtWill(Finding):
    def test_programs_that_are_let_keep_the_rules(self):
        chance = random.Random(42)
        for _ in range(120):
            program = let_program(chance)
            self.assertIsNone(clash(program))
            self.kept(program)

    def test_any_programs(self):
        chance = random.Random(43)
        let = 0
        for _ in range(600):
            program = any_program(chance, chance.choice([2, 3, 4]))
            told = clash(program)
            if told is None:
                let += 1
                self.kept(program)
            else:
                self.refused(schemes, program, NoKind)
        self.assertGreater(let, 40)


class TheAskers(Finding):
    def test_what_is_handed_in_stays_as_it_was(self):
        chance = random.Random(44)
        for _ in range(40):
            for program in (let_program(chance), any_program(chance)):
                before = copy.deepcopy(program)
                if clash(program) is None:
                    schemes(program)
                    inside(program, len(program) - 1)
                self.assertEqual(program, before)

    def test_asked_again_the_same_and_new(self):
        program = program_of("f fn r get a r", "main fn s do f with a 1 s")
        first, within = schemes(program), inside(program, 1)
        again = copy.deepcopy((first, within))
        first[0][1].append((7, "z"))
        first.append(None)
        within[0].append(None)
        within[1].append((7, "z"))
        self.assertEqual((schemes(program), inside(program, 1)), again)

    def test_one_list_of_lacks_for_each_def(self):
        program = program_of("f fn r get a r", "g f", "main f")
        told = schemes(program)
        told[0][1].append((7, "z"))
        self.assertEqual(told[1:], [scheme_of("fun rec ( a k0 | r1 ) k0 where r1 a")] * 2)


if __name__ == "__main__":
    unittest.main()
