"""[16]: wants that hold together, the widest filling, and what open rows must lack."""

import copy
import itertools
import random
import unittest

from fieldrows.errors import FieldError, NoKind, NoLine, NoName, TooMuch
from fieldrows.kinds import filled, numbers, parts
from fieldrows.schemes import named, stands_for
from fieldrows.solving import solved
from forms import NUM, fun, left_fun, long_fun, long_rec, one, random_kind, random_row, rec, row, sized, var, words

# Pairs, lacks, and what is told, where it leaves no choice of names.
TOLD = (
    ([], [], ({}, [])),
    ([(NUM, NUM)], [], ({}, [])),
    ([(var(0), var(0))], [], ({}, [])),
    ([(var(3), NUM)], [], ({3: NUM}, [])),
    ([(NUM, var(3))], [], ({3: NUM}, [])),
    ([(fun(var(0), var(1)), fun(NUM, rec()))], [], ({0: NUM, 1: rec()}, [])),
    ([(fun(var(0), NUM), fun(rec(), var(1)))], [], ({0: rec(), 1: NUM}, [])),
    ([(fun(var(0), var(0)), fun(NUM, NUM))], [], ({0: NUM}, [])),
    ([(var(0), NUM), (var(0), NUM), (var(0), var(0))], [], ({0: NUM}, [])),
    ([(var(0), fun(var(1), var(2)))], [], ({0: fun(var(1), var(2))}, [])),
    # What is filled in is filled to the last.
    ([(var(0), fun(var(1), var(1))), (var(1), rec(2)), (rec(2), rec(a=NUM))], [], (
        {0: fun(rec(a=NUM), rec(a=NUM)), 1: rec(a=NUM), 2: row(a=NUM)}, [],
    )),
    ([(var(0), var(1)), (var(1), var(2)), (var(2), NUM)], [], ({0: NUM, 1: NUM, 2: NUM}, [])),
    ([(var(0), var(1)), (var(0), NUM)], [], ({0: NUM, 1: NUM}, [])),
    # Rows: shut and shut, shut and open, open and open.
    ([(rec(), rec())], [], ({}, [])),
    ([(one(a=NUM), one(a=NUM))], [], ({}, [])),
    ([(rec(a=var(0), b=NUM), rec(a=NUM, b=var(1)))], [], ({0: NUM, 1: NUM}, [])),
    ([(rec(0), rec())], [], ({0: row()}, [])),
    ([(one(), one(0))], [], ({0: row()}, [])),
    ([(rec(0), rec(a=NUM, b=NUM))], [], ({0: row(a=NUM, b=NUM)}, [])),
    ([(rec(0, a=NUM), rec(a=NUM))], [], ({0: row()}, [])),
    ([(rec(0, b=var(1)), rec(a=rec(), b=NUM, c=one()))], [], ({0: row(a=rec(), c=one()), 1: NUM}, [])),
    ([(rec(0), rec(0))], [], ({}, [])),
    ([(rec(0, a=NUM), rec(0, a=NUM))], [], ({}, [(0, "a")])),
    ([(rec(0, a=NUM), rec(0, a=var(1)))], [], ({1: NUM}, [(0, "a")])),
    ([(rec(0), rec(1, a=NUM))], [], ({0: row(1, a=NUM)}, [(1, "a")])),
    ([(rec(1, a=NUM), rec(0))], [], ({0: row(1, a=NUM)}, [(1, "a")])),
    ([(rec(0, b=NUM), rec(1, a=var(2), b=NUM, c=NUM))], [], (
        {0: row(1, a=var(2), c=NUM)}, [(1, "a"), (1, "b"), (1, "c")],
    )),
    # An open row within a field of another row, or within a field behind which it is.
    ([(rec(0), rec(1, a=rec(1)))], [], ({0: row(1, a=rec(1))}, [(1, "a")])),
    ([(rec(0, a=rec(0)), rec(1, a=rec()))], [], ({0: row(), 1: row()}, [])),
    # A row is filled bit by bit.
    ([(rec(0), rec(1, a=NUM)), (rec(1), rec(2, b=NUM)), (rec(2), rec(c=NUM))], [], (
        {0: row(a=NUM, b=NUM, c=NUM), 1: row(b=NUM, c=NUM), 2: row(c=NUM)}, [],
    )),
    ([(rec(0), rec(1, c=NUM)), (rec(1), rec(2, a=NUM)), (rec(2), rec(3, b=NUM))], [], (
        {0: row(3, a=NUM, b=NUM, c=NUM), 1: row(3, a=NUM, b=NUM), 2: row(3, b=NUM)},
        [(3, "a"), (3, "b"), (3, "c")],
    )),
    # What rows shall lack.
    ([], [(row(5), "a")], ({}, [(5, "a")])),
    ([], [(row(5), "b"), (row(5), "a"), (row(5), "b"), (row(2), "c")], ({}, [(2, "c"), (5, "a"), (5, "b")])),
    ([], [(row(), "a")], ({}, [])),
    ([], [(row(b=NUM), "a")], ({}, [])),
    ([], [(row(5, b=NUM), "a")], ({}, [(5, "a"), (5, "b")])),
    ([(rec(0), rec())], [(row(0), "a")], ({0: row()}, [])),
    ([(rec(0), rec(b=NUM))], [(row(0), "a")], ({0: row(b=NUM)}, [])),
    ([(rec(0), rec(1, b=NUM))], [(row(0), "a")], ({0: row(1, b=NUM)}, [(1, "a"), (1, "b")])),
    ([(rec(0), rec(b=rec(a=NUM)))], [(row(0), "a")], ({0: row(b=rec(a=NUM))}, [])),
    ([(rec(0), rec(aa=NUM))], [(row(0), "a")], ({0: row(aa=NUM)}, [])),
    # Numbers that stand in the rows that shall lack alone, rows within their fields too.
    ([(var(0), NUM)], [(row(1, a=var(0), b=var(2)), "c")], ({0: NUM}, [(1, "a"), (1, "b"), (1, "c")])),
    ([], [(row(a=rec(7, b=NUM)), "b")], ({}, [(7, "b")])),
    ([], [(row(8, a=fun(NUM, one(7, b=rec(6, c=NUM)))), "b")], ({}, [(6, "c"), (7, "b"), (8, "a"), (8, "b")])),
    # Rows with a tail, at any depth, in pairs that want nothing else.
    ([(fun(rec(0, a=NUM), one(1, b=NUM)),) * 2], [], ({}, [(0, "a"), (1, "b")])),
    ([(var(3), fun(NUM, rec(0, a=one(1, b=NUM))))], [], (
        {3: fun(NUM, rec(0, a=one(1, b=NUM)))}, [(0, "a"), (1, "b")],
    )),
    # Sorted by numbers as numbers.
    ([], [(row(10), "a"), (row(9), "b"), (row(2), "c")], ({}, [(2, "c"), (9, "b"), (10, "a")])),
)

# Pairs and lacks that do not hold together.
NO_KINDS = (
    # Kinds of unlike sorts.
    *[([pair], []) for pair in itertools.permutations([NUM, fun(NUM, NUM), rec(), one()], 2)],
    *[([pair], []) for pair in itertools.permutations([NUM, fun(var(0), var(1)), rec(2), one(3)], 2)],
    ([(fun(NUM, NUM), fun(NUM, rec()))], []),
    ([(fun(NUM, NUM), fun(rec(), NUM))], []),
    ([(rec(a=NUM), rec(a=rec()))], []),
    ([(var(0), NUM), (var(0), rec())], []),
    ([(var(0), NUM), (var(1), rec()), (var(0), var(1))], []),
    ([(var(0), var(1)), (var(1), var(2)), (var(0), NUM), (var(2), rec())], []),
    ([(fun(var(0), var(0)), fun(NUM, rec()))], []),
    ([(NUM, NUM), (rec(0), one(1)), (NUM, NUM)], []),
    ([(fun(rec(0), one(0)), fun(rec(a=NUM), one(a=rec())))], []),
    ([(rec(0, a=NUM), rec(0, a=rec()))], []),
    # An open kind within what it shall be.
    ([(var(0), fun(var(0), NUM))], []),
    ([(var(0), fun(NUM, var(0)))], []),
    ([(var(0), rec(a=var(0)))], []),
    ([(one(1, a=fun(NUM, var(0))), var(0))], []),
    ([(var(0), fun(var(1), NUM)), (var(1), fun(var(0), NUM))], []),
    ([(var(0), fun(var(1), NUM)), (var(1), var(2)), (var(2), rec(a=var(0)))], []),
    ([(fun(var(0), var(1)), fun(rec(a=var(1)), rec(a=var(0))))], []),
    ([(var(0), rec(1)), (rec(1), rec(a=var(0)))], []),
    ([(var(0), rec(1)), (rec(1), rec(2, a=fun(NUM, var(0))))], []),
    ([(fun(var(0), var(0)), fun(var(1), fun(var(1), NUM)))], []),
    # An open row within its own field.
    ([(rec(0), rec(1, a=rec(0)))], []),
    ([(rec(0), rec(a=rec(0)))], []),
    ([(rec(0), rec(1, a=one(0)))], []),
    ([(rec(0), rec(1, a=rec(1))), (rec(0), rec(1))], []),
    ([(rec(0), rec(1, a=rec(2))), (rec(2), rec(3, b=rec(0)))], []),
    ([(rec(0, a=rec(1)), rec(1, b=rec(0)))], []),
    ([(rec(0, a=NUM), rec(1, b=rec(0)))], []),
    ([(rec(0, a=rec(1)), rec(1, b=NUM))], []),
    ([(rec(0), rec(1, a=var(2))), (var(2), rec(0))], []),
    # One open row behind unlike fields.
    ([(rec(0, a=NUM), rec(0))], []),
    ([(rec(0), rec(0, a=NUM))], []),
    ([(rec(0, a=NUM), rec(0, b=NUM))], []),
    ([(one(0, a=NUM, b=NUM), one(0, a=NUM))], []),
    ([(rec(0, a=NUM), rec(1, b=NUM)), (rec(0), rec(1))], []),
    ([(rec(0), rec(1)), (rec(0, a=NUM), rec(1, b=NUM))], []),
    ([(rec(0), rec(1, a=NUM)), (rec(1), rec(0))], []),
    ([(rec(0), rec(1, a=NUM)), (rec(1), rec(2, b=NUM)), (rec(2), rec(0))], []),
    # A field that a row shall lack.
    ([], [(row(a=NUM), "a")]),
    ([], [(row(0, a=NUM), "a")]),
    ([], [(row(0, a=NUM, b=NUM), "c"), (row(0, a=NUM, b=NUM), "b")]),
    ([(rec(0), rec(a=NUM))], [(row(0), "a")]),
    ([(rec(0), rec(1, a=NUM))], [(row(0), "a")]),
    ([(rec(0), rec(1)), (rec(1), rec(a=NUM))], [(row(0), "a")]),
    ([(rec(0), rec(1)), (rec(0), rec(a=NUM))], [(row(1), "a")]),
    ([(rec(0), rec(1, b=NUM)), (rec(1), rec(a=NUM))], [(row(0), "a")]),
    ([(rec(0), rec(1)), (rec(1, b=NUM), rec(2, a=NUM))], [(row(0), "a")]),
    ([(rec(0, b=NUM), rec(1, c=NUM)), (rec(1), rec(2, a=NUM))], [(row(0), "a")]),
    ([(rec(0, b=NUM), rec(1, c=NUM)), (rec(1), rec(2, a=NUM, b=NUM))], [(row(0), "a")]),
    ([(rec(0, a=NUM), rec(a=NUM, b=NUM))], [(row(0, a=NUM), "b")]),
    ([(fun(rec(0, a=NUM), rec(0)), fun(rec(1), rec(1)))], []),
    ([(fun(rec(0, a=NUM), rec(0)), fun(rec(1), rec(2, a=NUM)))], []),
    ([(rec(0), rec(a=NUM)), (var(1), one(0, a=NUM))], []),
    ([(rec(0), rec(a=NUM))], [(row(0, a=NUM), "b")]),
    ([(rec(0), rec(a=NUM))], [(row(c=fun(NUM, rec(0, a=NUM))), "b")]),
    # A shut row without a field.
    ([(rec(), rec(a=NUM))], []),
    ([(rec(a=NUM), rec())], []),
    ([(rec(a=NUM), rec(b=NUM))], []),
    ([(rec(a=NUM, b=NUM), rec(a=NUM))], []),
    ([(rec(), rec(0, a=NUM))], []),
    ([(rec(0, a=NUM), rec(b=NUM))], []),
    ([(one(b=NUM), one(0, a=NUM))], []),
    ([(rec(0), rec()), (rec(0), rec(a=NUM))], []),
    ([(rec(0), rec(a=NUM)), (rec(0), rec(1, b=NUM))], []),
    ([(rec(0), rec(1)), (rec(0), rec()), (rec(1), rec(2, a=NUM))], []),
)

# Pairs and lacks that hold together, of which the names of numbers may be told otherwise: with one answer.
NAMES_FREE = (
    ([(var(0), var(1))], [], ({1: var(0)}, [])),
    ([(var(0), var(1)), (var(2), var(1)), (var(0), var(2))], [], ({1: var(0), 2: var(0)}, [])),
    ([(rec(0), rec(1))], [], ({1: row(0)}, [])),
    ([(rec(0), rec(1))], [(row(0), "a"), (row(1), "b")], ({1: row(0)}, [(0, "a"), (0, "b")])),
    ([(var(2), var(3))], [(row(0, a=NUM), "b")], ({3: var(2)}, [(0, "a"), (0, "b")])),
    ([(rec(0, a=NUM), rec(1, b=NUM))], [], ({0: row(2, b=NUM), 1: row(2, a=NUM)}, [(2, "a"), (2, "b")])),
    ([(one(5, b=NUM), one(7, a=rec()))], [(row(7), "c")], (
        {5: row(9, a=rec()), 7: row(9, b=NUM)}, [(9, "a"), (9, "b"), (9, "c")],
    )),
    ([(rec(0, a=var(5)), rec(1, b=NUM)), (rec(0), rec(2, c=NUM))], [], (
        {0: row(9, b=NUM, c=NUM), 1: row(9, a=var(5), c=NUM), 2: row(9, b=NUM)}, [(9, "a"), (9, "b"), (9, "c")],
    )),
    # An open row that stands in the other's fields, and none within its own.
    ([(rec(0, a=rec(0)), rec(1, b=NUM))], [], ({0: row(2, b=NUM), 1: row(2, a=rec(2, b=NUM))}, [(2, "a"), (2, "b")])),
    ([(rec(0, a=rec(1)), rec(1, a=rec(0)))], [], ({1: row(0)}, [(0, "a")])),
    # A row that one order of the wants makes anew, and another one does not.
    ([(rec(0, a=NUM), rec(1, b=NUM)), (rec(0), rec(2, b=NUM))], [], (
        {0: row(2, b=NUM), 1: row(2, a=NUM)}, [(2, "a"), (2, "b")],
    )),
    ([(fun(rec(0, a=var(2)), var(2)), fun(rec(1, b=var(3)), var(3)))], [], (
        {0: row(9, b=var(2)), 1: row(9, a=var(2)), 3: var(2)}, [(9, "a"), (9, "b")],
    )),
)

HOLDING = [(pairs, lacks) for pairs, lacks, _ in TOLD + NAMES_FREE]


def kinds_of(pairs, lacks):
    return [kind for pair in pairs for kind in pair] + [("rec", some) for some, _ in lacks]


def numbers_of(pairs, lacks):
    return sorted({n for kind in kinds_of(pairs, lacks) for n in numbers(kind)})


def tails_in(kind):
    if kind[0] == "fun":
        return tails_in(kind[1]) | tails_in(kind[2])
    if kind[0] in ("rec", "one"):
        return {kind[1][2]}.union(*[tails_in(inner) for _, inner in kind[1][1]]) - {None}
    return set()


def tails_of(pairs, lacks):
    return set().union(*[tails_in(kind) for kind in kinds_of(pairs, lacks)])


def as_kind(n, tails, filling):
    """What a number comes to, a row as a rec of it."""
    return filled(rec(n) if n in tails else var(n), filling)


def all_in_one(pairs, lacks, told):
    """All that the wants' numbers come to, as one scheme: so names of numbers make no difference."""
    tails = tails_of(pairs, lacks)
    return named(fun(NUM, *[as_kind(n, tails, told[0]) for n in numbers_of(pairs, lacks)]), told[1])


def plain_rows(kind):
    """That its rows are by rising labels, each once."""
    if kind[0] == "fun":
        return plain_rows(kind[1]) and plain_rows(kind[2])
    if kind[0] in ("rec", "one"):
        return plain_row(kind[1])
    return True


def plain_row(some):
    labels = [label for label, _ in some[1]]
    return labels == sorted(set(labels)) and all(plain_rows(inner) for _, inner in some[1])


def shortly(pairs, lacks):
    """What tells wants from others in a failing test, also where they are too deep to be shown."""
    return [" ".join(words(kind)[:60]) for kind in kinds_of(pairs, lacks)[:6]]


def answer(pairs, lacks):
    try:
        return solved(pairs, lacks)
    except NoKind:
        return None


class Solving(unittest.TestCase):
    def no_kind(self, pairs, lacks):
        with self.assertRaises(FieldError, msg=shortly(pairs, lacks)) as caught:
            solved(pairs, lacks)
        self.assertIsInstance(caught.exception, NoKind)
        self.assertNotIsInstance(caught.exception, (TooMuch, NoLine, NoName))

    def told_rightly(self, pairs, lacks):
        """What can be seen of the answer to wants that hold together, whatever they are; the answer."""
        told = solved(pairs, lacks)
        self.assertIs(type(told), tuple)
        filling, left = told
        self.assertEqual((type(filling), type(left)), (dict, list))
        wanted = numbers_of(pairs, lacks)
        tails = tails_of(pairs, lacks)
        self.filled_rightly(filling, wanted, tails)
        for first, second in pairs:
            self.assertEqual(filled(first, filling), filled(second, filling))
            self.assertTrue(plain_rows(filled(first, filling)))
            self.assertLessEqual(parts(filled(first, filling)), 200)
        self.lacks_rightly(pairs, lacks, told)
        return told

    def filled_rightly(self, filling, wanted, tails):
        for n, what in filling.items():
            self.assertIn(n, wanted)
            self.assertEqual(what[0] == "row", n in tails)
            kind = ("rec", what) if n in tails else what
            self.assertTrue(plain_rows(kind))
            for inner in numbers(kind):
                self.assertNotIn(inner, filling)
                if inner not in wanted:
                    self.assertIn(inner, tails_in(kind))
                    # A row made anew is more than another name for one of the wants.
                    self.assertNotEqual(what, row(inner))

    def lacks_rightly(self, pairs, lacks, told):
        filling, left = told
        self.assertEqual(left, sorted(set(left)))
        open_rows = set()
        wanted = set()
        for kind in kinds_of(pairs, lacks):
            scheme = named(filled(kind, filling), [])
            names = numbers(filled(kind, filling))
            wanted.update((names[n], label) for n, label in scheme[1])
            open_rows |= tails_in(filled(kind, filling))
        for n in tails_of(pairs, lacks):
            open_rows |= tails_in(filled(rec(n), filling))
        for some, label in lacks:
            come_to = filled(("rec", some), filling)[1]
            self.assertNotIn(label, dict(come_to[1]))
            if come_to[2] is not None:
                wanted.add((come_to[2], label))
        self.assertLessEqual(wanted, set(left))
        self.assertLessEqual({n for n, _ in left}, open_rows)


class WantsThatHold(Solving):
    def test_what_is_told(self):
        for pairs, lacks, told in TOLD:
            with self.subTest(pairs=pairs, lacks=lacks):
                self.assertEqual(solved(pairs, lacks), told)

    def test_what_is_told_but_for_names(self):
        for pairs, lacks, told in NAMES_FREE:
            with self.subTest(pairs=pairs, lacks=lacks):
                self.assertEqual(
                    all_in_one(pairs, lacks, solved(pairs, lacks)),
                    all_in_one(pairs, lacks, told),
                )

    def test_told_rightly(self):
        for pairs, lacks in HOLDING:
            with self.subTest(pairs=pairs, lacks=lacks):
                self.told_rightly(pairs, lacks)

    def test_numbers_made_anew_stand_in_none_of_the_wants(self):
        for other in range(2, 9):
            filling, left = self.told_rightly([(rec(0, a=NUM), rec(1, b=NUM)), (var(other), var(other))], [])
            self.assertNotIn(filling[0][2], (0, 1, other))
            self.assertEqual(filling[0][2], filling[1][2])
            filling, left = self.told_rightly([(rec(0, a=NUM), rec(1, b=NUM))], [(row(other), "a")])
            self.assertNotIn(filling[0][2], (0, 1, other))
            filling, left = self.told_rightly([(rec(0, a=NUM), rec(1, b=NUM))], [(row(a=var(other)), "b")])
            self.assertNotIn(filling[0][2], (0, 1, other))

    def test_each_pair_makes_its_own(self):
        pairs = [(rec(n, a=NUM), rec(n + 10, b=NUM)) for n in range(10)]
        filling, left = self.told_rightly(pairs, [])
        made = [filling[n][2] for n in range(10)]
        self.assertEqual(len(set(made)), 10)
        self.assertEqual(left, sorted((n, label) for n in made for label in "ab"))

    def test_names_of_numbers_make_no_difference(self):
        chance = random.Random(18)
        for pairs, lacks in HOLDING:
            names = list(range(30))
            chance.shuffle(names)
            tails = tails_of(pairs, lacks)
            renaming = {n: row(names[n]) if n in tails else var(names[n]) for n in numbers_of(pairs, lacks)}
            others = [(filled(first, renaming), filled(second, renaming)) for first, second in pairs]
            more = [(filled(("rec", some), renaming)[1], label) for some, label in lacks]
            told = self.told_rightly(others, more)
            # As all_in_one puts them, in the order of their first names.
            whole = fun(NUM, *[filled(filled(rec(n) if n in tails else var(n), renaming), told[0]) for n in sorted(renaming)])
            self.assertEqual(named(whole, told[1]), all_in_one(pairs, lacks, solved(pairs, lacks)))


class WantsThatDoNot(Solving):
    def test_each(self):
        for pairs, lacks in NO_KINDS:
            self.no_kind(pairs, lacks)

    def test_in_any_order_and_turned_about(self):
        for pairs, lacks in NO_KINDS:
            for some in itertools.permutations(pairs):
                self.no_kind(list(some), lacks[::-1])
                self.no_kind([(second, first) for first, second in some], lacks)

    def test_among_others_that_hold(self):
        for pairs, lacks in NO_KINDS:
            more = [(var(50), fun(rec(51, a=NUM), NUM)), (rec(51), rec(52, b=NUM))]
            self.no_kind(more + pairs, [(row(52), "c")] + lacks)
            self.no_kind(pairs + more, lacks + [(row(52), "c")])

    def test_within_other_kinds(self):
        for pairs, lacks in NO_KINDS:
            for around in (lambda kind: fun(NUM, kind), lambda kind: rec(60, z=kind), lambda kind: one(a=NUM, b=kind)):
                self.no_kind([(around(first), around(second)) for first, second in pairs], lacks)


class TurnedAbout(Solving):
    def test_another_order_and_sides_turned_tell_the_same(self):
        for pairs, lacks in HOLDING:
            wanted = all_in_one(pairs, lacks, solved(pairs, lacks))
            for some in itertools.permutations(pairs):
                for turns in itertools.product([1, -1], repeat=len(pairs)):
                    turned = [pair[::turn] for pair, turn in zip(some, turns)]
                    with self.subTest(pairs=turned, lacks=lacks):
                        told = self.told_rightly(turned, lacks[::-1])
                        self.assertEqual(all_in_one(turned, lacks, told), wanted)

    def test_any_wants(self):
        chance = random.Random(19)
        held = 0
        for _ in range(1500):
            pairs, lacks = random_wants(chance, 3, 2)
            first = answer(pairs, lacks)
            others = [pair[::chance.choice([1, -1])] for pair in pairs]
            chance.shuffle(others)
            more = lacks * 2
            chance.shuffle(more)
            if first is None:
                self.no_kind(others, more)
                continue
            held += 1
            self.told_rightly(pairs, lacks)
            told = self.told_rightly(others, more)
            self.assertEqual(all_in_one(others, more, told), all_in_one(pairs, lacks, first), (pairs, lacks))
        self.assertGreater(held, 300)
        self.assertLess(held, 1200)


def random_wants(chance, depth, many):
    pairs = []
    for _ in range(chance.randrange(1, many + 1)):
        pairs.append(tuple(random_kind(chance, [0, 1], [2, 3, 4], ["a", "b"], depth) for _ in range(2)))
    lacks = []
    for _ in range(chance.randrange(3)):
        lacks.append((random_row(chance, [0, 1], [2, 3, 4], ["a", "b"], 1), chance.choice("abc")))
    return pairs, lacks


class TheWidest(Solving):
    """Against all fillings out of a small world: those that meet the wants are those that what is told stands for."""

    KINDS = (NUM, fun(NUM, NUM), rec(), rec(a=NUM), one(b=NUM), rec(a=NUM, b=NUM))
    ROWS = (row(), row(a=NUM), row(b=NUM), row(c=NUM), row(a=NUM, b=NUM), row(a=rec()), row(a=rec(b=NUM), c=NUM))

    def test_in_a_small_world(self):
        chance = random.Random(20)
        held, met = 0, 0
        for _ in range(600):
            pairs, lacks = random_wants(chance, 2, 2)
            if len(numbers_of(pairs, lacks)) > 3:
                continue
            told = answer(pairs, lacks)
            held += told is not None
            met += self.compared(pairs, lacks, told, self.KINDS, self.ROWS)
        self.assertGreater(held, 50)
        self.assertGreater(met, 300)

    def test_wants_of_rows_alone(self):
        rows = [row(**dict.fromkeys(some, NUM)) for many in range(4) for some in itertools.combinations("abc", many)]
        chance = random.Random(21)
        held, met = 0, 0
        for _ in range(400):
            pairs = [(self.some_rec(chance), self.some_rec(chance)) for _ in range(chance.randrange(1, 4))]
            lacks = [(row(chance.choice([2, 3, 4])), chance.choice("abc")) for _ in range(chance.randrange(2))]
            told = answer(pairs, lacks)
            held += told is not None
            met += self.compared(pairs, lacks, told, [NUM], rows)
        self.assertGreater(held, 50)
        self.assertGreater(met, 500)

    def some_rec(self, chance):
        fields = {label: chance.choice([NUM, NUM, var(0)]) for label in "abc" if chance.randrange(4) == 0}
        return rec(chance.choice([None, 2, 2, 3, 3, 4, 4]), **fields)

    def compared(self, pairs, lacks, told, kinds, rows):
        """How many fillings out of these kinds and rows meet the wants."""
        tails = tails_of(pairs, lacks)
        wanted = numbers_of(pairs, lacks)
        scheme = None if told is None else all_in_one(pairs, lacks, told)
        met = 0
        for some in itertools.product(*[rows if n in tails else kinds for n in wanted]):
            filling = dict(zip(wanted, some))
            meets = self.meets(pairs, lacks, filling)
            whole = fun(NUM, *[as_kind(n, tails, filling) for n in wanted])
            self.assertEqual(scheme is not None and stands_for(scheme, whole), meets, (pairs, lacks, told, filling))
            met += meets
        return met

    def meets(self, pairs, lacks, filling):
        for first, second in pairs:
            come_to = filled(first, filling)
            if come_to != filled(second, filling) or not plain_rows(come_to):
                return False
        for some, label in lacks:
            come_to = filled(("rec", some), filling)
            if not plain_rows(come_to) or label in dict(come_to[1][1]):
                return False
        return True


class TwoHundredParts(Solving):
    def test_as_they_stand(self):
        for many in (3, 198, 199, 200):
            self.assertEqual(solved([(var(0), sized(many))], []), ({0: sized(many)}, []))
            self.assertEqual(solved([(sized(many), var(0))], []), ({0: sized(many)}, []))
            self.assertEqual(solved([(sized(many), sized(many))], []), ({}, []))
        for many in (201, 202, 203, 400):
            self.no_kind([(var(0), sized(many))], [])
            self.no_kind([(sized(many), var(0))], [])
            self.no_kind([(sized(many), sized(many))], [])
            self.no_kind([(NUM, NUM), (sized(many), sized(many)), (var(0), NUM)], [])

    def test_a_row_of_many_fields(self):
        for many, holds in ((98, True), (99, True), (100, False), (500, False)):
            wide = {f"a{k}": NUM for k in range(many)}
            self.assertEqual(parts(rec(**wide)), 2 + 2 * many)
            for pair in ((rec(0), rec(**wide)), (rec(1, **wide), rec(0)), (rec(**wide), rec(**wide)), (var(0), rec(1, **wide))):
                self.assertEqual(answer([pair], []) is not None, holds)

    def test_as_they_come_to(self):
        for many, holds in ((97, True), (98, True), (99, True), (100, False), (150, False)):
            wants = [(var(0), sized(100)), (var(1), fun(var(0), sized(many)))]
            self.assertEqual(parts(fun(sized(100), sized(many))), 101 + many)
            for pairs in itertools.permutations(wants):
                self.assertEqual(answer(list(pairs), []) is not None, holds)

    def test_an_open_kind_that_stands_there_several_times(self):
        for many, holds in ((65, True), (66, True), (67, False)):
            wants = [(var(1), fun(var(0), var(0), var(0))), (var(0), sized(many))]
            self.assertEqual(parts(fun(sized(many), sized(many), sized(many))), 3 * many + 2)
            for pairs in itertools.permutations(wants):
                self.assertEqual(answer(list(pairs), []) is not None, holds)

    def test_a_row_that_comes_to_its_fields(self):
        for many, holds in ((95, True), (96, True), (97, False)):
            wants = [(var(1), fun(rec(0), rec(0))), (rec(0), rec(a=sized(many)))]
            self.assertEqual(parts(fun(rec(a=sized(many)), rec(a=sized(many)))), 2 * many + 7)
            for pairs in itertools.permutations(wants):
                self.assertEqual(answer(list(pairs), []) is not None, holds)

    def test_rows_that_come_to_the_fields_of_both(self):
        for many, holds in ((98, True), (99, True), (100, False)):
            self.assertEqual(parts(rec(2, a=sized(97), b=sized(many))), 101 + many)
            for pair in itertools.permutations([rec(0, a=sized(97)), rec(1, b=sized(many))]):
                self.assertEqual(answer([pair], []) is not None, holds)

    def test_kinds_that_come_to_a_great_many(self):
        for depth, holds in ((6, True), (7, False), (60, False), (199, False)):
            wants = [(var(n + 1), fun(var(n), var(n))) for n in range(depth)]
            for pairs in (wants, wants[::-1], wants[::2] + wants[1::2]):
                self.assertEqual(answer(pairs, []) is not None, holds)
                self.assertEqual(answer(pairs + [(var(0), NUM)], []) is not None, holds)
        for depth, holds in ((6, True), (7, False), (50, False)):
            wants = [(var(n + 1), fun(var(n), var(n))) for n in range(depth)]
            wants += [(var(n + 301), fun(var(n + 300), var(n + 300))) for n in range(depth)]
            for pairs in (wants + [(var(depth), var(300 + depth))], [(var(depth), var(300 + depth))] + wants):
                self.assertEqual(answer(pairs, []) is not None, holds)

    def test_one_kind_that_comes_to_a_great_many(self):
        depth = 60
        first = fun(*[var(n) for n in range(depth)], NUM)
        second = fun(*[fun(var(n + 1), var(n + 1)) for n in range(depth - 1)], NUM, NUM)
        self.no_kind([(first, second)], [])

    def test_kinds_in_the_rows_that_shall_lack_may_come_to_more(self):
        large = sized(150)
        told = solved([(var(0), large)], [(row(1, a=fun(var(0), var(0))), "b")])
        self.assertEqual(told, ({0: large}, [(1, "a"), (1, "b")]))
        told = solved([(var(0), NUM)], [(row(1, a=sized(201)), "b"), (row(c=sized(1000)), "b")])
        self.assertEqual(told, ({0: NUM}, [(1, "a"), (1, "b")]))
        self.assertEqual(solved([], [(row(1, a=sized(300)), "b")]), ({}, [(1, "a"), (1, "b")]))

    def test_some_thousand_parts(self):
        for many, made in ((1999, long_fun), (1999, left_fun), (1333, long_rec)):
            self.no_kind([(var(0), made(many, NUM))], [])
            self.no_kind([(made(many, NUM), made(many, NUM))], [])
            self.no_kind([(made(many, var(0)), made(many, rec()))], [])
            self.assertEqual(solved([], [(row(3, b=made(many, NUM)), "a")])[1], [(3, "a"), (3, "b")])
        self.assertEqual(solved([], [(row(b=long_rec(1333, NUM, 2)), "a")]), ({}, [(2, "a")]))

    def test_four_hundred_kinds(self):
        chain = [(var(n), var(n + 1)) for n in range(200)]
        for pairs in (chain, chain[::-1]):
            filling, left = solved(pairs, [])
            self.assertEqual((len(filling), len(set(filling.values())), left), (200, 1, []))
        rows = [(rec(n), rec(n + 1)) for n in range(200)]
        for pairs in (rows, rows[::-1]):
            filling, left = solved(pairs, [(row(n), f"a{n}") for n in range(201)])
            self.assertEqual((len(filling), len(set(filling.values())), len(left)), (200, 1, 201))
        wide = [(fun(*[var(98 * n + k) for k in range(99)]), fun(*[var(98 * n + k + 1) for k in range(99)])) for n in range(200)]
        filling, left = solved(wide, [])
        self.assertEqual(len(set(filling.values())), 1)


class TheAskers(Solving):
    def test_what_is_handed_in_stays_as_it_was(self):
        for pairs, lacks in HOLDING + list(NO_KINDS):
            before = copy.deepcopy((pairs, lacks))
            answer(pairs, lacks)
            self.assertEqual((pairs, lacks), before)

    def test_asked_again_the_same_and_new(self):
        for pairs, lacks in HOLDING:
            first = solved(pairs, lacks)
            again = copy.deepcopy(first)
            second = solved(pairs, lacks)
            self.assertIsNot(first[0], second[0])
            self.assertIsNot(first[1], second[1])
            first[0][999] = NUM
            first[1].append((999, "z"))
            self.assertEqual(second, again)
            self.assertEqual(solved(pairs, lacks), again)

    def test_a_refusal_between_changes_nothing(self):
        for (pairs, lacks), (wrong, more) in zip(HOLDING, NO_KINDS):
            first = solved(pairs, lacks)
            self.no_kind(wrong, more)
            self.assertEqual(solved(pairs, lacks), first)

    def test_the_kinds_handed_in_are_as_long_as_before(self):
        kind = long_fun(90, var(0))
        before = words(kind)
        solved([(kind, long_fun(90, rec(1, a=NUM))), (rec(1), rec(2, b=NUM))], [])
        self.assertEqual(words(kind), before)


if __name__ == "__main__":
    unittest.main()
