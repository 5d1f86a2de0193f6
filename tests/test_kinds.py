"""[12], [13], [14]: the parts and numbers of kinds, and kinds filled."""

import copy
import random
import unittest

from fieldrows.kinds import filled, numbers, parts
from forms import NUM, fun, left_fun, long_fun, long_rec, one, random_kind, rec, row, sized, small_kinds, var, words

# A kind, how many parts it has, and its numbers.
KINDS = (
    (NUM, 1, []),
    (var(0), 1, [0]),
    (var(7), 1, [7]),
    (var(1000000), 1, [1000000]),
    (fun(NUM, NUM), 3, []),
    (fun(var(1), var(0)), 3, [1, 0]),
    (fun(var(3), var(3)), 3, [3]),
    (fun(fun(var(2), NUM), var(1)), 5, [2, 1]),
    (fun(NUM, fun(var(2), var(1))), 5, [2, 1]),
    # Rows: shut and open, with no field and with several.
    (rec(), 2, []),
    (one(), 2, []),
    (rec(0), 2, [0]),
    (one(5), 2, [5]),
    (rec(a=NUM), 4, []),
    (one(a=NUM), 4, []),
    (rec(0, a=NUM), 4, [0]),
    (one(0, a=var(1)), 4, [1, 0]),
    (rec(a=var(2), b=var(1)), 6, [2, 1]),
    (rec(0, a=var(2), b=var(1)), 6, [2, 1, 0]),
    (one(9, a=NUM, b=NUM, c=NUM), 8, [9]),
    (rec(1, a=rec(2, b=rec(3))), 8, [3, 2, 1]),
    (rec(1, a=rec(2), b=rec(3)), 8, [2, 3, 1]),
    (fun(rec(4, a=NUM), rec(3, b=NUM)), 9, [4, 3]),
    (rec(1, a=fun(var(0), rec(1, b=var(0)))), 9, [0, 1]),
    # One number several times is told where it first stands.
    (fun(rec(0), rec(0)), 5, [0]),
    (fun(rec(0, a=var(1)), one(0, b=var(1))), 9, [1, 0]),
    (fun(var(1), var(2), var(1), var(3), var(2)), 9, [1, 2, 3]),
    (rec(0, a=rec(0, b=rec(0))), 8, [0]),
    (rec(a=one(2, b=var(1)), c=rec(2, d=fun(var(1), var(0)))), 14, [1, 2, 0]),
)

# A kind, a filling, and the kind filled.
FILLINGS = (
    # Open kinds.
    (var(0), {0: NUM}, NUM),
    (var(0), {0: var(1)}, var(1)),
    (var(0), {0: var(0)}, var(0)),
    (var(0), {0: fun(var(0), var(0))}, fun(var(0), var(0))),
    (fun(var(0), var(1)), {0: NUM, 1: rec()}, fun(NUM, rec())),
    (fun(var(0), var(0)), {0: fun(NUM, NUM)}, fun(fun(NUM, NUM), fun(NUM, NUM))),
    (rec(a=var(0), b=NUM), {0: one(c=NUM)}, rec(a=one(c=NUM), b=NUM)),
    # What is filled in is not filled again.
    (fun(var(0), var(1)), {0: var(1), 1: var(0)}, fun(var(1), var(0))),
    (fun(var(0), var(1)), {0: var(1), 1: NUM}, fun(var(1), NUM)),
    (rec(0), {0: row(1, a=var(2)), 1: row(), 2: NUM}, rec(1, a=var(2))),
    (fun(rec(0), rec(1)), {0: row(1), 1: row(0)}, fun(rec(1), rec(0))),
    (rec(0), {0: row(0, a=rec(0))}, rec(0, a=rec(0))),
    # Open rows.
    (rec(0), {0: row()}, rec()),
    (one(0), {0: row()}, one()),
    (rec(0), {0: row(1)}, rec(1)),
    (rec(0), {0: row(a=NUM)}, rec(a=NUM)),
    (rec(0), {0: row(1, a=NUM, b=NUM)}, rec(1, a=NUM, b=NUM)),
    (one(3, a=NUM), {3: row()}, one(a=NUM)),
    (one(3, a=NUM), {3: row(4)}, one(4, a=NUM)),
    # Fields are put among others by rising labels: ahead, between and behind.
    (rec(0, b=NUM), {0: row(a=var(1))}, rec(a=var(1), b=NUM)),
    (rec(0, b=NUM), {0: row(c=var(1))}, rec(b=NUM, c=var(1))),
    (rec(0, a=NUM, c=NUM), {0: row(b=var(1))}, rec(a=NUM, b=var(1), c=NUM)),
    (
        rec(0, b=NUM, d=NUM),
        {0: row(1, a=var(1), c=var(2), e=var(3))},
        rec(1, a=var(1), b=NUM, c=var(2), d=NUM, e=var(3)),
    ),
    (rec(0, a=NUM, b=NUM), {0: row(aa=NUM, ab=NUM)}, rec(a=NUM, aa=NUM, ab=NUM, b=NUM)),
    (rec(0, ab=NUM), {0: row(a=NUM, b=NUM)}, rec(a=NUM, ab=NUM, b=NUM)),
    # Its own fields are filled, those that are put in are not.
    (rec(0, a=var(1)), {0: row(b=var(1)), 1: NUM}, rec(a=NUM, b=var(1))),
    (rec(0, a=rec(0)), {0: row(2, b=NUM)}, rec(2, a=rec(2, b=NUM), b=NUM)),
    (fun(rec(0, a=NUM), one(0, c=NUM)), {0: row(b=NUM)}, fun(rec(a=NUM, b=NUM), one(b=NUM, c=NUM))),
    # Numbers that are no keys stay, and keys that are no numbers of it are left.
    (fun(var(0), rec(1)), {}, fun(var(0), rec(1))),
    (fun(var(0), rec(1)), {2: NUM, 3: row(a=NUM)}, fun(var(0), rec(1))),
    (fun(var(0), var(1), rec(2), rec(3)), {1: NUM, 2: row(a=NUM)}, fun(var(0), NUM, rec(a=NUM), rec(3))),
    (NUM, {0: NUM}, NUM),
    (rec(), {0: row(a=NUM)}, rec()),
)


def plain_parts(kind):
    """As [13] says it, word by word."""
    if kind[0] in ("num", "var"):
        return 1
    if kind[0] == "fun":
        return 1 + plain_parts(kind[1]) + plain_parts(kind[2])
    return 2 + sum(1 + plain_parts(inner) for _, inner in kind[1][1])


def plain_numbers(kind):
    """As they stand, each as often as it stands there."""
    if kind[0] == "var":
        return [kind[1]]
    if kind[0] == "num":
        return []
    if kind[0] == "fun":
        return plain_numbers(kind[1]) + plain_numbers(kind[2])
    inner = [n for _, field in kind[1][1] for n in plain_numbers(field)]
    return inner + ([] if kind[1][2] is None else [kind[1][2]])


def plain_filled(kind, filling):
    """As [14] says it, word by word."""
    if kind[0] == "var":
        return filling.get(kind[1], kind)
    if kind[0] == "num":
        return kind
    if kind[0] == "fun":
        return ("fun", plain_filled(kind[1], filling), plain_filled(kind[2], filling))
    fields = {label: plain_filled(field, filling) for label, field in kind[1][1]}
    more = filling.get(kind[1][2], ("row", (), kind[1][2]))
    return (kind[0], ("row", tuple(sorted({**fields, **dict(more[1])}.items())), more[2]))


class Parts(unittest.TestCase):
    def test_each_sort(self):
        for kind, many, _ in KINDS:
            with self.subTest(kind=kind):
                self.assertEqual(parts(kind), many)
                self.assertIs(type(parts(kind)), int)

    def test_open_and_shut_count_alike(self):
        for fields in ({}, {"a": NUM}, {"a": NUM, "b": fun(NUM, NUM)}):
            self.assertEqual(parts(rec(**fields)), parts(rec(0, **fields)))
            self.assertEqual(parts(rec(**fields)), parts(one(0, **fields)))

    def test_a_thing_counts_as_often_as_it_stands_there(self):
        twice = fun(NUM, NUM)
        for depth in range(2, 9):
            twice = ("fun", twice, twice)
            self.assertEqual(parts(twice), 2 ** (depth + 1) - 1)

    def test_around_two_hundred(self):
        for many in range(3, 210):
            self.assertEqual(parts(sized(many)), many)

    def test_as_the_words_say(self):
        for kind in small_kinds([0, 1], [2], ["a", "b"], 1):
            self.assertEqual(parts(kind), plain_parts(kind))
        chance = random.Random(12)
        for _ in range(300):
            kind = random_kind(chance, [0, 1, 2], [3, 4], ["a", "b", "c"], 4)
            self.assertEqual(parts(kind), plain_parts(kind))

    def test_some_thousand_parts(self):
        self.assertEqual(parts(long_fun(1999, var(0))), 3999)
        self.assertEqual(parts(left_fun(1999, var(0))), 3999)
        self.assertEqual(parts(long_rec(1333, NUM)), 4000)
        self.assertEqual(parts(rec(0, **{f"a{k}": NUM for k in range(1999)})), 4000)


class Numbers(unittest.TestCase):
    def test_each_sort(self):
        for kind, _, found in KINDS:
            with self.subTest(kind=kind):
                self.assertEqual(numbers(kind), found)
                self.assertIs(type(numbers(kind)), list)

    def test_as_the_words_say(self):
        chance = random.Random(13)
        for _ in range(300):
            kind = random_kind(chance, [3, 1, 2], [5, 4, 0], ["a", "b", "c"], 4)
            self.assertEqual(numbers(kind), list(dict.fromkeys(plain_numbers(kind))))

    def test_some_thousand_parts(self):
        self.assertEqual(numbers(long_fun(1999, var(6))), [6])
        self.assertEqual(numbers(left_fun(1999, var(6))), [6])
        self.assertEqual(numbers(long_rec(1333, var(6), 2)), [6, 2])
        kind = NUM
        for n in range(1333):
            kind = rec(n, a=kind)
        self.assertEqual(numbers(kind), list(range(1333)))
        kind = NUM
        for n in range(1999):
            kind = fun(var(n), kind)
        self.assertEqual(numbers(kind), list(range(1998, -1, -1)))

    def test_a_new_list_each_time(self):
        for kind, _, found in KINDS:
            first = numbers(kind)
            first.append("more")
            first.reverse()
            self.assertEqual(numbers(kind), found)


class Filled(unittest.TestCase):
    def test_each_filling(self):
        for kind, filling, result in FILLINGS:
            with self.subTest(kind=kind, filling=filling):
                self.assertEqual(filled(kind, filling), result)

    def test_an_empty_filling(self):
        for kind, _, _ in KINDS:
            self.assertEqual(filled(kind, {}), kind)

    def test_nothing_that_is_filled_in_makes_parts_fewer(self):
        for kind, filling, result in FILLINGS:
            self.assertGreaterEqual(parts(result), parts(kind))
            self.assertEqual(parts(filled(kind, filling)), parts(result))

    def test_filling_and_kind_stay_as_they_were(self):
        for kind, filling, _ in FILLINGS:
            before = copy.deepcopy((kind, filling))
            first = filled(kind, filling)
            self.assertEqual((kind, filling), before)
            self.assertEqual(list(filling), list(before[1]))
            self.assertEqual(filled(kind, filling), first)

    def test_as_the_words_say(self):
        chance = random.Random(14)
        for _ in range(500):
            kind = random_kind(chance, [0, 1, 2], [3, 4], ["b", "d"], 3)
            filling = {
                0: random_kind(chance, [0, 1], [3, 4], ["a", "b"], 2),
                2: random_kind(chance, [0, 1], [3, 4], ["a", "b"], 2),
                3: row(chance.choice([None, 3, 5]), a=random_kind(chance, [0, 1], [3, 4], ["a", "b"], 2), c=var(0)),
            }
            self.assertEqual(filled(kind, filling), plain_filled(kind, filling))

    def test_some_thousand_parts(self):
        for many, made in ((1999, long_fun), (1999, left_fun), (1333, long_rec)):
            self.assertEqual(words(filled(made(many, var(0)), {0: rec(1)})), words(made(many, rec(1))))
            self.assertEqual(words(filled(var(0), {0: made(many, NUM)})), words(made(many, NUM)))
        self.assertEqual(words(filled(long_rec(1333, var(0), 7), {7: row()})), words(long_rec(1333, var(0))))
        self.assertEqual(words(filled(rec(0), {0: row(1, a=long_fun(1998, NUM))})), words(rec(1, a=long_fun(1998, NUM))))


if __name__ == "__main__":
    unittest.main()
