"""[3]: what is promised of programs as a whole, of such as are drawn at will."""

import collections
import random
import unittest

from fieldrows.errors import NoKind
from fieldrows.finding import clash, hold, inside, schemes
from fieldrows.machine import read_by, run_made
from fieldrows.making import made
from fieldrows.places import places
from fieldrows.plain import run
from drawing import any_program, let_program, row_program
from reckoned import Naive
from refusing import Refusing


class Whole(Refusing):
    def let(self, program):
        """What is promised of a program that is let."""
        self.assertIsNone(clash(program))
        found = schemes(program)
        self.assertEqual(len(found), len(program))
        code = made(program)
        enough = run(program, 1000)[1]
        for most in {0, 1, 2, 3, 7, 60, 1000, enough, max(0, enough - 1)}:
            word, steps, what = run(program, most)
            self.assertIn(word, ("value", "tired"), program)
            self.assertNotEqual(what, ("deep",))
            self.assertTrue(steps <= most if word == "value" else (steps, what) == (most, None))
            self.made_alike(found[-1][0], code, most, (word, steps, what))

    def made_alike(self, kind, code, most, told):
        """The made program ends with the same word and the same steps, and its value, read by main's kind, is the same."""
        word, steps, what = run_made(code, most)
        if word == "value":
            what = read_by(kind, what)
        self.assertEqual((word, steps, what), told, code)

    def not_let(self, program):
        self.refused(schemes, program, NoKind)
        self.refused(made, program, NoKind)
        name, stayed = clash(program)
        k = [other for other, E in program].index(name)
        for above in range(k):
            inside(program, above)
        for other in range(k, len(program)):
            self.refused(lambda some: inside(some, other), program, NoKind)
        self.assertFalse(hold(program, k, stayed))
        for place in stayed:
            self.assertTrue(hold(program, k, [other for other in stayed if other != place]))

    def test_programs_that_are_drawn_by_kinds(self):
        chance = random.Random(71)
        words, ends = collections.Counter(), collections.Counter()
        for _ in range(150):
            program = let_program(chance, chance.choice([2, 3, 4, 5]))
            self.let(program)
            words.update(place[0] for name, E in program for place in places(E))
            ends[run(program, 1000)[0]] += 1
        self.assertGreater(min(words.values()), 20)
        self.assertEqual(len(words), 18)
        self.assertGreater(min(ends.values()), 20)

    def test_programs_that_go_through_open_rows(self):
        chance = random.Random(76)
        many, ends = collections.Counter(), collections.Counter()
        for _ in range(150):
            program = row_program(chance)
            self.let(program)
            many.update(params for name, params, code in made(program))
            ends[run(program, 1000)[0]] += 1
        self.assertGreater(min(many[params] for params in range(5)), 20)
        self.assertEqual(ends["value"], 150)

    def test_each_number_of_steps(self):
        chance = random.Random(77)
        met = 0
        while met < 12:
            program = chance.choice([let_program, row_program])(chance)
            code = made(program)
            enough = run(program, 1000)[1]
            if enough < 3:
                continue
            met += 1
            for most in [*range(min(enough + 3, 60)), enough - 1, enough, 1000]:
                self.made_alike(schemes(program)[-1][0], code, most, run(program, most))

    def test_any_programs(self):
        chance = random.Random(72)
        ends = collections.Counter()
        for _ in range(700):
            program = any_program(chance, chance.choice([1, 2, 3, 4]))
            if clash(program) is None:
                self.let(program)
                ends["let"] += 1
            else:
                self.not_let(program)
                ends[run(program, 200)[0]] += 1
        self.assertGreater(min(ends.values()), 50)
        self.assertEqual(len(ends), 4)

    def test_programs_with_one_place_changed(self):
        """Near to the edge: some of these are let and some are not."""
        chance = random.Random(73)
        let = collections.Counter()
        for _ in range(150):
            program = let_program(chance, 3)
            program[-1] = ("main", self.changed(chance, program[-1][1]))
            let[clash(program) is None] += 1
            if clash(program) is None:
                self.let(program)
            else:
                self.not_let(program)
        self.assertGreater(min(let.values()), 20)

    def changed(self, chance, E):
        parts = [at for at, part in enumerate(E) if isinstance(part, tuple)]
        if not parts or chance.randrange(5) == 0:
            return chance.choice([("num", 1), ("empty",), ("tag", "a", E), ("get", "a", E), ("with", "b", ("num", 1), E)])
        at = chance.choice(parts)
        return (*E[:at], self.changed(chance, E[at]), *E[at + 1:])


class RunsOnceMore(unittest.TestCase):
    def test_any_programs_run_as_those_that_are_reckoned_by_calls(self):
        chance = random.Random(74)
        ends = collections.Counter()
        for _ in range(2500):
            program = any_program(chance, chance.choice([1, 2, 3, 4, 5]))
            for most in (0, 1, 3, 40):
                told = run(program, most)
                self.assertEqual(told, Naive(program, most).run(), program)
                ends[told[0]] += 1
        self.assertGreater(min(ends.values()), 1000)

    def test_let_programs_too(self):
        chance = random.Random(75)
        for _ in range(200):
            program = let_program(chance, 4)
            for most in (5, 40):
                self.assertEqual(run(program, most), Naive(program, most).run(), program)


if __name__ == "__main__":
    unittest.main()
