"""[15]: schemes, named, and the kinds that they stand for."""

import copy
import itertools
import random
import unittest

from fieldrows.kinds import filled, numbers
from fieldrows.schemes import named, stands_for
from forms import NUM, fun, left_fun, long_fun, long_rec, one, random_kind, rec, row, small_kinds, small_rows, var, words

# A kind, what it is handed with, and its scheme.
NAMED = (
    (NUM, [], (NUM, [])),
    (var(7), [], (var(0), [])),
    (fun(var(5), var(3)), [], (fun(var(0), var(1)), [])),
    (fun(var(1), var(0)), [], (fun(var(0), var(1)), [])),
    (fun(var(1), var(0), var(1)), [], (fun(var(0), var(1), var(0)), [])),
    (rec(4), [], (rec(0), [])),
    (fun(rec(1), rec(0)), [], (fun(rec(0), rec(1)), [])),
    # A row's fields are ahead of its tail.
    (rec(0, a=var(1)), [], (rec(1, a=var(0)), [(1, "a")])),
    (rec(9, a=rec(8, b=var(7))), [], (rec(2, a=rec(1, b=var(0))), [(1, "b"), (2, "a")])),
    # Lacks are put in for the fields of rows with a tail, not for those of shut rows.
    (rec(a=NUM, b=NUM), [], (rec(a=NUM, b=NUM), [])),
    (rec(3, b=NUM, a=NUM), [], (rec(0, b=NUM, a=NUM), [(0, "a"), (0, "b")])),
    (one(3, b=NUM, a=NUM), [], (one(0, b=NUM, a=NUM), [(0, "a"), (0, "b")])),
    (fun(rec(3, b=NUM), rec(3, a=NUM)), [], (fun(rec(0, b=NUM), rec(0, a=NUM)), [(0, "a"), (0, "b")])),
    (fun(rec(3, a=NUM), one(3, a=NUM)), [], (fun(rec(0, a=NUM), one(0, a=NUM)), [(0, "a")])),
    (fun(rec(b=NUM), rec(3)), [], (fun(rec(b=NUM), rec(0)), [])),
    # Lacks that are handed in are named with the kind, sorted, each once.
    (rec(4), [(4, "a")], (rec(0), [(0, "a")])),
    (rec(4), [(4, "b"), (4, "a"), (4, "b"), (4, "ab")], (rec(0), [(0, "a"), (0, "ab"), (0, "b")])),
    (rec(4, a=NUM), [(4, "a")], (rec(0, a=NUM), [(0, "a")])),
    (rec(4, b=NUM), [(4, "c"), (4, "a")], (rec(0, b=NUM), [(0, "a"), (0, "b"), (0, "c")])),
    (fun(rec(9), rec(2)), [(2, "a"), (9, "b")], (fun(rec(0), rec(1)), [(0, "b"), (1, "a")])),
    # By the number ahead of the label, and numbers as numbers, not as texts.
    (
        fun(*[rec(n) for n in range(30, 18, -1)]),
        [(20, "b"), (28, "a"), (19, "a")],
        (fun(*[rec(n) for n in range(12)]), [(2, "a"), (10, "b"), (11, "a")]),
    ),
    # Left out where they are of no open row of the kind: of no number of it, or of an open kind.
    (rec(4), [(5, "a"), (0, "a")], (rec(0), [])),
    (NUM, [(0, "a")], (NUM, [])),
    (var(4), [(4, "a")], (var(0), [])),
    (fun(var(4), rec(5)), [(4, "a"), (5, "b"), (0, "c"), (1, "c")], (fun(var(0), rec(1)), [(1, "b")])),
    (rec(a=NUM), [(0, "a")], (rec(a=NUM), [])),
)

# A scheme, a kind, and whether it stands for it.
STANDS_FOR = (
    ((NUM, []), NUM, True),
    ((NUM, []), rec(), False),
    ((NUM, []), var(0), False),
    ((NUM, []), fun(NUM, NUM), False),
    ((rec(), []), rec(), True),
    ((rec(), []), one(), False),
    ((one(), []), rec(), False),
    ((rec(), []), rec(a=NUM), False),
    ((rec(a=NUM), []), rec(), False),
    ((rec(a=NUM), []), rec(a=NUM), True),
    ((rec(a=NUM), []), rec(b=NUM), False),
    ((rec(a=NUM), []), rec(a=rec()), False),
    ((rec(a=NUM), []), rec(a=NUM, b=NUM), False),
    ((rec(a=NUM, b=NUM), []), rec(a=NUM), False),
    ((fun(NUM, rec()), []), fun(NUM, rec()), True),
    ((fun(NUM, rec()), []), fun(rec(), NUM), False),
    ((fun(NUM, rec()), []), fun(NUM, NUM), False),
    ((fun(NUM, rec()), []), fun(rec(), rec()), False),
    ((fun(NUM, rec()), []), NUM, False),
    # Open kinds of the scheme: any kind, alike at each place.
    ((var(0), []), NUM, True),
    ((var(0), []), rec(a=NUM, b=one()), True),
    ((fun(var(0), var(0)), []), fun(NUM, NUM), True),
    ((fun(var(0), var(0)), []), fun(NUM, rec()), False),
    ((fun(var(0), var(0)), []), fun(fun(NUM, rec()), fun(NUM, rec())), True),
    ((fun(var(0), var(0)), []), fun(fun(NUM, rec()), fun(rec(), NUM)), False),
    ((fun(var(0), var(0)), []), fun(fun(NUM, NUM, NUM), fun(fun(NUM, NUM), NUM)), False),
    ((fun(var(0), var(0)), []), fun(rec(a=NUM), rec(b=NUM)), False),
    ((fun(var(0), var(0)), []), fun(rec(a=NUM), one(a=NUM)), False),
    ((fun(var(0), var(0)), []), fun(rec(a=NUM), rec(a=NUM)), True),
    ((fun(var(0), var(1)), []), fun(NUM, rec()), True),
    ((fun(var(0), var(1)), []), fun(NUM, NUM), True),
    ((fun(var(0), var(1), var(0)), []), fun(NUM, rec(), NUM), True),
    ((fun(var(0), var(1), var(0)), []), fun(NUM, rec(), rec()), False),
    ((rec(a=var(0), b=var(0)), []), rec(a=NUM, b=NUM), True),
    ((rec(a=var(0), b=var(0)), []), rec(a=NUM, b=one()), False),
    ((fun(var(0), fun(var(0), NUM)), []), fun(fun(NUM, NUM), fun(fun(NUM, NUM), NUM)), True),
    ((fun(var(0), var(0)), []), NUM, False),
    # Open rows of the scheme: any row, alike at each place.
    ((rec(0), []), rec(), True),
    ((rec(0), []), rec(a=NUM, b=one(c=NUM)), True),
    ((rec(0), []), one(), False),
    ((rec(0), []), NUM, False),
    ((one(0), []), one(a=NUM), True),
    ((rec(0, b=NUM), [(0, "b")]), rec(b=NUM), True),
    ((rec(0, b=NUM), [(0, "b")]), rec(a=NUM, b=NUM, c=rec()), True),
    ((rec(0, b=NUM), [(0, "b")]), rec(a=NUM, c=rec()), False),
    ((rec(0, b=NUM), [(0, "b")]), rec(a=NUM, b=rec()), False),
    ((rec(0, b=NUM), [(0, "b")]), rec(), False),
    ((rec(1, b=var(0)), [(1, "b")]), rec(a=NUM, b=rec()), True),
    ((fun(rec(0), rec(0)), []), fun(rec(), rec()), True),
    ((fun(rec(0), rec(0)), []), fun(rec(a=NUM), rec(a=NUM)), True),
    ((fun(rec(0), rec(0)), []), fun(rec(a=NUM), rec(b=NUM)), False),
    ((fun(rec(0), rec(0)), []), fun(rec(a=NUM), rec(a=rec())), False),
    ((fun(rec(0), rec(0)), []), fun(rec(a=NUM), rec()), False),
    ((fun(rec(0), rec(0)), []), fun(rec(a=NUM), rec(a=NUM, b=NUM)), False),
    ((fun(rec(0), one(0)), []), fun(rec(a=NUM), one(a=NUM)), True),
    ((fun(rec(0), one(0)), []), fun(rec(a=NUM), rec(a=NUM)), False),
    ((fun(rec(0), rec(1)), []), fun(rec(a=NUM), rec(b=NUM)), True),
    ((fun(rec(0, a=NUM), rec(0)), [(0, "a")]), fun(rec(a=NUM), rec()), True),
    ((fun(rec(0, a=NUM), rec(0)), [(0, "a")]), fun(rec(a=NUM, b=NUM), rec(b=NUM)), True),
    ((fun(rec(0, a=NUM), rec(0)), [(0, "a")]), fun(rec(a=NUM, b=NUM), rec(a=NUM, b=NUM)), False),
    ((fun(rec(0, a=NUM), rec(0)), [(0, "a")]), fun(rec(a=NUM, b=NUM), rec()), False),
    ((fun(rec(0, a=NUM), rec(0)), [(0, "a")]), fun(rec(a=NUM), rec(a=NUM)), False),
    ((fun(rec(0, a=NUM), rec(0, b=NUM)), [(0, "a"), (0, "b")]), fun(rec(a=NUM), rec(b=NUM)), True),
    ((fun(rec(0, a=NUM), rec(0, b=NUM)), [(0, "a"), (0, "b")]), fun(rec(a=NUM, c=NUM), rec(b=NUM, c=NUM)), True),
    ((fun(rec(0, a=NUM), rec(0, b=NUM)), [(0, "a"), (0, "b")]), fun(rec(a=NUM, b=NUM), rec(a=NUM, b=NUM)), False),
    # Labels that an open row must lack.
    ((rec(0), [(0, "a")]), rec(), True),
    ((rec(0), [(0, "a")]), rec(b=NUM), True),
    ((rec(0), [(0, "a")]), rec(a=NUM), False),
    ((rec(0), [(0, "a")]), rec(a=NUM, b=NUM), False),
    ((rec(0), [(0, "a")]), rec(aa=NUM, ab=NUM), True),
    ((rec(0), [(0, "a"), (0, "c")]), rec(b=NUM, c=NUM), False),
    ((rec(0, a=NUM), [(0, "a"), (0, "b")]), rec(a=NUM), True),
    ((rec(0, a=NUM), [(0, "a"), (0, "b")]), rec(a=NUM, c=NUM), True),
    ((rec(0, a=NUM), [(0, "a"), (0, "b")]), rec(a=NUM, b=NUM), False),
    ((fun(rec(0), rec(1)), [(0, "a")]), fun(rec(b=NUM), rec(a=NUM)), True),
    ((fun(rec(0), rec(1)), [(0, "a")]), fun(rec(a=NUM), rec(b=NUM)), False),
    ((fun(rec(0), rec(1)), [(1, "a")]), fun(rec(b=NUM), rec(a=NUM)), False),
    ((one(0), [(0, "a")]), one(a=NUM), False),
    # What a row must lack, it may have within its fields.
    ((rec(0), [(0, "a")]), rec(b=rec(a=NUM)), True),
    # Open kinds of the kind stay as they are, whatever they are called.
    ((var(0), []), var(0), True),
    ((var(0), []), var(5), True),
    ((fun(var(0), var(0)), []), fun(var(1), var(1)), True),
    ((fun(var(0), var(0)), []), fun(var(0), var(1)), False),
    ((fun(var(0), var(0)), []), fun(var(1), var(0)), False),
    ((fun(var(0), var(1)), []), fun(var(1), var(0)), True),
    ((fun(var(0), var(1)), []), fun(var(0), var(0)), True),
    ((fun(var(0), NUM), []), fun(NUM, var(0)), False),
    ((fun(var(0), NUM), []), fun(var(0), NUM), True),
    ((fun(var(0), var(0)), []), fun(rec(a=var(0)), rec(a=var(0))), True),
    ((fun(var(0), var(0)), []), fun(var(0), rec(a=var(0))), False),
    ((fun(var(0), var(0)), []), fun(rec(a=var(0)), rec(a=var(1))), False),
    ((rec(0, a=NUM), [(0, "a")]), rec(a=NUM, b=var(0)), True),
    ((rec(0, a=NUM), [(0, "a")]), rec(a=var(0)), False),
    ((rec(0), []), var(0), False),
    ((fun(rec(0), rec(0)), []), fun(rec(a=var(3)), rec(a=var(4))), False),
    # Labels that are words of kinds.
    ((rec(0), []), rec(num=NUM, rec=rec(), var=var(1), row=NUM), True),
    ((fun(var(0), var(0)), []), fun(rec(rec=rec()), rec(rec=rec())), True),
    ((fun(var(0), var(0)), []), fun(rec(num=rec()), rec(rec=NUM)), False),
    ((fun(var(0), var(0)), []), fun(rec(a=rec(), b=NUM), rec(a=rec(b=NUM))), False),
)


class Named(unittest.TestCase):
    def test_each_kind(self):
        for kind, lacks, scheme in NAMED:
            with self.subTest(kind=kind, lacks=lacks):
                self.assertEqual(named(kind, lacks), scheme)

    def test_a_tuple_of_a_kind_and_a_list_of_tuples(self):
        for kind, lacks, _ in NAMED:
            scheme = named(kind, lacks)
            self.assertIs(type(scheme), tuple)
            self.assertIs(type(scheme[1]), list)
            for lack in scheme[1]:
                self.assertIs(type(lack), tuple)

    def test_numbers_in_their_order_from_0(self):
        chance = random.Random(15)
        for _ in range(300):
            kind = random_kind(chance, [3, 1, 12], [5, 40, 0], ["a", "b", "c"], 3)
            scheme = named(kind, [])
            self.assertEqual(numbers(scheme[0]), list(range(len(numbers(kind)))))

    def test_a_named_one_is_named_as_it_is(self):
        for _, _, scheme in NAMED:
            self.assertEqual(named(scheme[0], scheme[1]), scheme)
            self.assertEqual(named(scheme[0], scheme[1][::-1] * 2), scheme)

    def test_kinds_that_differ_in_their_numbers_alone(self):
        chance = random.Random(16)
        for _ in range(300):
            kind = random_kind(chance, [0, 1, 2], [3, 4, 5], ["a", "b", "c"], 3)
            names = list(range(20))
            chance.shuffle(names)
            filling = {n: var(names[n]) if n < 3 else row(names[n]) for n in range(6)}
            lacks = [(chance.randrange(6), chance.choice("abcd")) for _ in range(4)]
            renamed = [(names[n], label) for n, label in lacks]
            self.assertEqual(named(filled(kind, filling), renamed), named(kind, lacks))

    def test_kinds_that_differ_otherwise_are_named_otherwise(self):
        for kind, other in (
            (fun(var(0), var(0)), fun(var(0), var(1))),
            (fun(rec(0), rec(0)), fun(rec(0), rec(1))),
            (rec(0), rec()),
            (rec(0), one(0)),
            (fun(var(0), rec(1)), fun(rec(1), var(0))),
        ):
            self.assertNotEqual(named(kind, []), named(other, []))
        self.assertNotEqual(named(fun(rec(0), rec(1)), [(0, "a")]), named(fun(rec(0), rec(1)), [(1, "a")]))

    def test_what_is_handed_in_is_not_changed(self):
        for kind, lacks, scheme in NAMED:
            before = copy.deepcopy((kind, lacks))
            first = named(kind, lacks)
            self.assertEqual((kind, lacks), before)
            self.assertIsNot(first[1], lacks)
            first[1].append((99, "z"))
            self.assertEqual((kind, lacks), before)
            self.assertEqual(named(kind, lacks), scheme)

    def test_some_thousand_parts(self):
        for many, made in ((1999, long_fun), (1999, left_fun)):
            scheme = named(made(many, var(8)), [])
            self.assertEqual((words(scheme[0]), scheme[1]), (words(made(many, var(0))), []))
        scheme = named(long_rec(1333, var(8), 2), [(2, "b"), (8, "b")])
        self.assertEqual((words(scheme[0]), scheme[1]), (words(long_rec(1333, var(0), 1)), [(1, "a"), (1, "b")]))


class StandsFor(unittest.TestCase):
    def test_each_kind(self):
        for scheme, kind, answer in STANDS_FOR:
            with self.subTest(scheme=scheme, kind=kind):
                self.assertIs(stands_for(scheme, kind), answer)

    def test_a_kind_that_a_filling_gives_and_none_other(self):
        """Against all fillings out of a small world, which holds all that stands in one of its own kinds."""
        kinds = small_kinds([9], [], ["a", "b"], 1)
        rows = small_rows([NUM, var(9)], [], ["a", "b"])
        chance = random.Random(17)
        stood = 0
        for _ in range(100):
            kind = random_kind(chance, [0, 1], [2, 3], ["a", "b"], 2)
            extra = [(chance.choice([2, 3]), chance.choice("ab")) for _ in range(chance.randrange(3))]
            scheme = named(kind, extra)
            if len(numbers(kind)) > 3:
                continue
            given = self.given(scheme, kinds, rows)
            loose = self.given((scheme[0], []), kinds, rows)
            for other in kinds + sorted(loose, key=repr)[::1 + len(loose) // 200]:
                self.assertIs(stands_for(scheme, other), other in given, (scheme, other))
                stood += other in given
        self.assertGreater(stood, 500)

    def given(self, scheme, kinds, rows):
        """All kinds that fillings of the scheme's numbers, out of these kinds and rows, give, none with a field twice."""
        tails = self.tails(scheme[0])
        worlds = []
        for n in numbers(scheme[0]):
            lacked = [label for number, label in scheme[1] if number == n]
            free = [some for some in rows if not any(label in lacked for label, _ in some[1])]
            worlds.append(free if n in tails else kinds)
        found = {filled(scheme[0], dict(enumerate(some))) for some in itertools.product(*worlds)}
        return {kind for kind in found if self.plain(kind)}

    def plain(self, kind):
        if kind[0] == "fun":
            return self.plain(kind[1]) and self.plain(kind[2])
        if kind[0] in ("rec", "one"):
            labels = [label for label, _ in kind[1][1]]
            return len(labels) == len(set(labels)) and all(self.plain(inner) for _, inner in kind[1][1])
        return True

    def tails(self, kind):
        if kind[0] == "fun":
            return self.tails(kind[1]) | self.tails(kind[2])
        if kind[0] in ("rec", "one"):
            return {kind[1][2]}.union(*[self.tails(inner) for _, inner in kind[1][1]])
        return set()

    def test_what_is_handed_in_is_not_changed(self):
        for scheme, kind, answer in STANDS_FOR:
            before = copy.deepcopy((scheme, kind))
            stands_for(scheme, kind)
            self.assertEqual((scheme, kind), before)
            self.assertIs(stands_for(scheme, kind), answer)

    def test_some_thousand_parts(self):
        for many, made in ((1999, long_fun), (1999, left_fun), (1333, long_rec)):
            self.assertIs(stands_for((made(many, NUM), []), made(many, NUM)), True)
            self.assertIs(stands_for((made(many, NUM), []), made(many, rec())), False)
            self.assertIs(stands_for((made(many, var(0)), []), made(many, rec())), True)
            self.assertIs(stands_for((var(0), []), made(many, NUM)), True)
        for many, made in ((999, long_fun), (999, left_fun), (666, long_rec)):
            self.assertIs(stands_for((fun(var(0), var(0)), []), fun(made(many, NUM), made(many, NUM))), True)
            self.assertIs(stands_for((fun(var(0), var(0)), []), fun(made(many, NUM), made(many, rec()))), False)
            twice = (fun(rec(0), rec(0)), [])
            self.assertIs(stands_for(twice, fun(rec(b=made(many, NUM)), rec(b=made(many, NUM)))), True)
            self.assertIs(stands_for(twice, fun(rec(b=made(many, NUM)), rec(b=made(many, rec())))), False)
        self.assertIs(stands_for((long_rec(1333, NUM, 0), [(0, "a")]), long_rec(1333, NUM)), True)


if __name__ == "__main__":
    unittest.main()
