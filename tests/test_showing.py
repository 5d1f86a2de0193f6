"""[26]: kinds, schemes and values as texts."""

import copy
import random
import unittest

from fieldrows.showing import shown_kind, shown_scheme, shown_value
from forms import NUM, fun, kind_of, left_fun, long_fun, long_rec, one, random_kind, rec, scheme_of, var


class Kinds(unittest.TestCase):
    def test_each_sort(self):
        for kind, text in (
            (NUM, "num"), (var(0), "k0"), (var(12), "k12"), (fun(NUM, var(3)), "fun num k3"),
            (rec(), "rec ( )"), (one(), "one ( )"), (rec(a=NUM), "rec ( a num )"), (one(a=NUM), "one ( a num )"),
        ):
            self.assertEqual(shown_kind(kind), text)

    def test_functions_within_one_another(self):
        self.assertEqual(shown_kind(fun(NUM, var(0), NUM)), "fun num fun k0 num")
        self.assertEqual(shown_kind(fun(fun(NUM, var(0)), NUM)), "fun fun num k0 num")

    def test_rows_shut_and_open(self):
        self.assertEqual(shown_kind(rec(0)), "rec ( | r0 )")
        self.assertEqual(shown_kind(one(15)), "one ( | r15 )")
        self.assertEqual(shown_kind(rec(1, a=NUM)), "rec ( a num | r1 )")
        self.assertEqual(shown_kind(rec(a=NUM, ab=var(0), b=rec())), "rec ( a num ab k0 b rec ( ) )")
        self.assertEqual(shown_kind(one(2, a=NUM, ab=var(0), b=rec(3))), "one ( a num ab k0 b rec ( | r3 ) | r2 )")
        self.assertEqual(
            shown_kind(fun(rec(1, a=one(2, b=fun(NUM, NUM)), c=NUM), var(0))),
            "fun rec ( a one ( b fun num num | r2 ) c num | r1 ) k0",
        )

    def test_any_kinds_can_be_read_again(self):
        chance = random.Random(101)
        for _ in range(300):
            kind = random_kind(chance, [0, 1, 22], [3, 4, 55], ["a", "b", "num"], 4)
            self.assertEqual(kind_of(shown_kind(kind)), kind)

    def test_kinds_of_some_thousand_parts(self):
        self.assertEqual(shown_kind(long_fun(1500, NUM)), "fun num " * 1500 + "num")
        self.assertEqual(shown_kind(left_fun(1500, NUM)), "fun " * 1500 + "num" + " num" * 1500)
        self.assertEqual(shown_kind(long_rec(1000, NUM)), "rec ( a " * 1000 + "num" + " )" * 1000)


class Schemes(unittest.TestCase):
    def test_without_lacks(self):
        self.assertEqual(shown_scheme((NUM, [])), "num")
        self.assertEqual(shown_scheme((fun(var(0), var(0)), [])), "fun k0 k0")

    def test_with_lacks(self):
        self.assertEqual(shown_scheme((rec(0), [(0, "a")])), "rec ( | r0 ) where r0 a")
        scheme = (fun(rec(1, a=var(0)), one(2)), [(1, "a"), (1, "ab"), (2, "a")])
        self.assertEqual(shown_scheme(scheme), "fun rec ( a k0 | r1 ) one ( | r2 ) where r1 a r1 ab r2 a")
        self.assertEqual(shown_scheme((rec(10), [(10, "where")])), "rec ( | r10 ) where r10 where")

    def test_what_is_shown_can_be_read_again(self):
        for text in ("num", "rec ( | r0 ) where r0 a", "fun one ( a k0 | r1 ) k0 where r1 a r1 b"):
            self.assertEqual(shown_scheme(scheme_of(text)), text)

    def test_what_is_handed_in_stays_as_it_was(self):
        scheme = (rec(0), [(0, "a"), (0, "b")])
        before = copy.deepcopy(scheme)
        shown_scheme(scheme)
        self.assertEqual(scheme, before)


class Values(unittest.TestCase):
    def test_each_sort(self):
        for value, text in (
            (0, "0"), (7, "7"), (999999, "999999"), (("fn",), "fn"), (("deep",), "deep"), (("rec", ()), "rec ( )"),
            (("rec", (("a", 1),)), "rec ( a 1 )"), (("one", "a", 1), "one a 1"), (("one", "a", ("fn",)), "one a fn"),
        ):
            self.assertEqual(shown_value(value), text)

    def test_within_one_another(self):
        value = ("rec", (("a", 1), ("ab", ("rec", ())), ("b", ("one", "c", ("rec", (("d", ("fn",)),))))))
        self.assertEqual(shown_value(value), "rec ( a 1 ab rec ( ) b one c rec ( d fn ) )")
        self.assertEqual(shown_value(("one", "a", ("one", "b", ("rec", (("c", 0), ("d", 2)))))), "one a one b rec ( c 0 d 2 )")

    def test_labels_called_like_the_words(self):
        self.assertEqual(shown_value(("one", "rec", ("rec", (("num", 1), ("one", 2))))), "one rec rec ( num 1 one 2 )")

    def test_a_hundred_and_fifty_within_one_another(self):
        records, choices = 1, 1
        for _ in range(150):
            records, choices = ("rec", (("a", records),)), ("one", "a", choices)
        self.assertEqual(shown_value(records), "rec ( a " * 150 + "1" + " )" * 150)
        self.assertEqual(shown_value(choices), "one a " * 150 + "1")


if __name__ == "__main__":
    unittest.main()
