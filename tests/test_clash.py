"""[19]: which places of a def hold, and the clash of a program that is not let."""

import copy
import itertools
import random
import unittest

from fieldrows.errors import NoKind
from fieldrows.finding import clash, hold, schemes
from fieldrows.places import places
from drawing import any_expression, any_program, let_program
from forms import NUM, fun, one, rec
from programs import SIZES, program_of, sized_defs
from refusing import Refusing
from rules import World

FEW = (NUM, rec(), rec(a=NUM), one(a=NUM), one())
FUNS = tuple(fun(first, second) for first in FEW for second in FEW)
SMALL = (*FEW, *FUNS, rec(b=NUM), one(b=NUM), rec(a=rec()), one(a=rec()))


def walked(program, k):
    """The clash of def k, by the words of [19]."""
    stayed = list(range(len(places(program[k][1]))))
    for place in stayed[::-1]:
        without = [other for other in stayed if other != place]
        if not hold(program, k, without):
            stayed = without
    return stayed


def least_sets(program, k):
    """All sets of def k's places that do not hold while those of any of them less one do."""
    numbers = range(len(places(program[k][1])))
    found = []
    for many in range(len(numbers) + 1):
        for some in itertools.combinations(numbers, many):
            if not any(set(other) <= set(some) for other in found) and not hold(program, k, list(some)):
                found.append(some)
    return found


class Clashing(Refusing):
    def clashes(self, wanted, *defs):
        """The clash is of the last of these defs, and these are its places."""
        program = program_of(*defs)
        with self.subTest(defs=defs):
            k = len(defs) - 1
            self.assertEqual(clash(program), (program[k][0], wanted))
            self.told_rightly(program, k)

    def told_rightly(self, program, k):
        name, told = clash(program)
        self.assertEqual(name, program[k][0])
        self.assertEqual(told, sorted(set(told)))
        self.assertFalse(hold(program, k, told))
        for place in told:
            self.assertTrue(hold(program, k, [other for other in told if other != place]), (program, place))
        self.assertEqual(told, walked(program, k))
        self.refused(schemes, program, NoKind)


class Hold(Clashing):
    def test_of_no_places(self):
        for line in ("it 1", "it + empty 1", "it fn x do x x", "it get a it"):
            self.assertIs(hold(program_of(line), 0, []), True)

    def test_of_all(self):
        for line, holds in (("it 1", True), ("it + 1 1", True), ("it + empty 1", False), ("it fn x do x x", False)):
            program = program_of(line)
            self.assertIs(hold(program, 0, list(range(len(places(program[0][1]))))), holds)

    def test_in_any_order_and_several_times(self):
        program = program_of("it if empty get a 1 2")
        for many in range(6):
            for some in itertools.permutations(range(5), many):
                holds = not {0, 1} <= set(some) and not {2, 3} <= set(some)
                self.assertIs(hold(program, 0, list(some)), holds, some)
                self.assertIs(hold(program, 0, [*some, *some[::-1], *some[:1]]), holds, some)

    def test_of_each_rule_alone(self):
        """Without their rules, places can have any kinds."""
        program = program_of("it + empty tag a get a 1")
        for place in range(5):
            self.assertTrue(hold(program, 0, [place]))
        self.assertFalse(hold(program, 0, [0, 1]))
        self.assertFalse(hold(program, 0, [0, 2]))
        self.assertFalse(hold(program, 0, [3, 4]))
        self.assertTrue(hold(program, 0, [1, 2, 3]))
        self.assertTrue(hold(program, 0, [0, 3]))
        self.assertTrue(hold(program, 0, [1, 2, 4]))

    def test_a_bound_name_has_a_kind_also_without_the_rule_that_binds_it(self):
        program = program_of("it fn x + x get a x")
        self.assertTrue(hold(program, 0, [0, 2, 3, 4]))
        self.assertFalse(hold(program, 0, [1, 2, 3, 4]))
        self.assertTrue(hold(program, 0, [0, 1, 3, 4]))
        program = program_of("it case 1 a x get a x y + y 2")
        self.assertEqual(least_sets(program, 0), [(0, 1), (0, 4, 5)])

    def test_the_def_itself_has_the_kind_of_place_0_also_without_its_rule(self):
        program = program_of("it fn x + it get a it")
        self.assertEqual(least_sets(program, 0), [(0, 1, 2), (0, 3, 4), (1, 2, 3, 4)])

    def test_of_a_def_behind_others(self):
        program = program_of("geta fn r get a r", "it do geta empty", "main + 1 empty")
        for some in itertools.product([0, 1], repeat=3):
            chosen = [place for place in range(3) if some[place]]
            self.assertIs(hold(program, 1, chosen), chosen != [0, 1, 2])
        self.assertTrue(hold(program, 0, [0, 1, 2]))
        self.assertFalse(hold(program_of("f 1", "g get a f", "main 1"), 1, [0, 1]))

    def test_behind_one_without_kinds_that_is_not_above(self):
        program = program_of("it fn x x", "bad + 1 empty", "main 1")
        self.assertTrue(hold(program, 0, [0, 1]))
        self.assertFalse(hold(program, 1, [0, 1, 2]))

    def test_kinds_of_too_many_parts(self):
        for first, second, holds in ((99, 97, True), (99, 98, False)):
            program = program_of(*sized_defs(first, second), "it with p first with q second empty")
            self.assertIs(hold(program, 4, [0, 1, 2, 3, 4]), holds)
            for place in range(4):
                self.assertTrue(hold(program, 4, [other for other in range(5) if other != place]))
        self.assertFalse(hold(program, 4, [0, 1, 2, 3]))

    def test_against_a_small_world(self):
        chance = random.Random(51)
        met = {True: 0, False: 0}
        while sum(met.values()) < 600:
            E = any_expression(chance, ["it"], chance.choice([1, 2, 2, 3]))
            many = len(places(E))
            if many > 8 or sum({"fn": 1, "case": 2}.get(place[0], 0) for place in places(E)) > 2:
                continue
            program = [("it", E), ("main", ("num", 0))]
            for _ in range(4):
                some = [place for place in range(many) if chance.randrange(4)]
                found = World(SMALL, {}, some).kinds_of_def("it", E)
                holds = hold(program, 0, some)
                self.assertTrue(holds or not found, (program, some))
                met[bool(found)] += 1
        self.assertGreater(min(met.values()), 150)

    def test_fewer_places_hold_where_more_do(self):
        chance = random.Random(52)
        for _ in range(150):
            program = any_program(chance, 3)
            many = len(places(program[0][1]))
            some = [place for place in range(many) if chance.randrange(3)]
            fewer = [place for place in some if chance.randrange(2)]
            self.assertTrue(not hold(program, 0, some) or hold(program, 0, fewer))


class TheClash(Clashing):
    def test_of_let_programs(self):
        self.assertIsNone(clash(program_of("main 1")))
        self.assertIsNone(clash(program_of("f fn r get a r", "main do f with a 1 empty")))
        chance = random.Random(53)
        for _ in range(40):
            self.assertIsNone(clash(let_program(chance)))

    def test_one_set_of_places(self):
        self.clashes([0, 1], "main + empty 1")
        self.clashes([0, 2], "main + 1 empty")
        self.clashes([0, 1], "main get a empty")
        self.clashes([1, 2, 3], "main fn x do x x")
        self.clashes([0, 1], "main fn x main")
        self.clashes([0, 1], "main do main 1")
        self.clashes([0, 2], "main with a 1 with a 1 empty")
        self.clashes([0, 1], "main wide a tag a 1")
        self.clashes([0, 1], "main never tag a 1")
        self.clashes([0, 2, 3], "main if 1 1 empty")
        self.clashes([0, 1, 2], "geta fn r get a r", "main do geta empty")

    def test_two_sets_of_places(self):
        program = program_of("main with a + empty 1 get a empty")
        self.assertEqual(least_sets(program, 0), [(1, 2), (4, 5)])
        self.clashes([1, 2], "main with a + empty 1 get a empty")

    def test_sets_that_share_a_place(self):
        self.assertEqual(least_sets(program_of("main + empty empty"), 0), [(0, 1), (0, 2)])
        self.clashes([0, 1], "main + empty empty")
        self.assertEqual(least_sets(program_of("main if empty 1 empty"), 0), [(0, 1), (0, 2, 3)])
        self.clashes([0, 1], "main if empty 1 empty")
        line = "main fn x do fn u get a x + x get b x"
        self.assertEqual(least_sets(program_of(line), 0), [(3, 4, 5, 6), (5, 6, 7, 8)])
        self.clashes([3, 4, 5, 6], line)

    def test_several_sets_of_places(self):
        line = "main if tag a 1 if empty 1 empty + empty get a 2"
        self.assertGreater(len(least_sets(program_of(line), 0)), 4)
        self.clashes([0, 1], line)

    def test_the_last_places_are_left_out_first(self):
        """Of sets that are as good, the one whose last place is the least stays, though it may have more places."""
        program = program_of("main if 1 fn x do x x + 1 empty")
        found = least_sets(program, 0)
        self.assertIn((3, 4, 5), found)
        self.assertIn((6, 8), found)
        self.clashes([3, 4, 5], "main if 1 fn x do x x + 1 empty")

    def test_one_of_the_least_sets(self):
        chance = random.Random(54)
        met = 0
        while met < 40:
            program = [("it", any_expression(chance, ["it"], 3)), ("main", ("num", 0))]
            if len(places(program[0][1])) > 9 or clash(program) is None:
                continue
            found = least_sets(program, 0)
            self.assertIn(tuple(clash(program)[1]), found)
            # The walk from the last place on keeps the set that is least when read from its last place.
            self.assertEqual(tuple(clash(program)[1]), min(found, key=lambda some: some[::-1]))
            met += len(found) > 1
            self.told_rightly(program, 0)

    def test_of_the_first_def_without_kinds(self):
        bad = ("f + 1 empty", "g get a 1", "main do 1 1")
        self.assertEqual(clash(program_of(*bad)), ("f", [0, 2]))
        self.assertEqual(clash(program_of("f 1", *bad[1:])), ("g", [0, 1]))
        self.assertEqual(clash(program_of("f 1", "g 1", bad[2])), ("main", [0, 1]))
        self.assertEqual(clash(program_of(bad[0], "g f", "main f")), ("f", [0, 2]))
        self.assertEqual(clash(program_of("f fn r get a r", "g do f 1", "main do f 2")), ("g", [0, 1, 2]))

    def test_kinds_of_too_many_parts(self):
        self.clashes([0, 1, 2, 3], *sized_defs(99, 98), "it with p first with q second empty")
        self.clashes(list(range(10)), *SIZES, "it " + "do twice " * 20 + "1")

    def test_any_programs(self):
        chance = random.Random(55)
        met = 0
        while met < 300:
            program = any_program(chance, chance.choice([2, 3, 4]))
            told = clash(program)
            if told is not None:
                met += 1
                self.told_rightly(program, [name for name, E in program].index(told[0]))

    def test_eighty_places(self):
        line = "main " + "+ 1 " * 29 + "1"
        program = program_of(line[:-1] + "empty")
        self.assertEqual(clash(program), ("main", [56, 58]))
        line = "main tag a " + "with a + 1 1 " * 15 + "with b + 1 1 " + "with c 1 " * 7 + "empty"
        self.assertEqual(len(places(program_of(line)[0][1])), 80)
        self.told_rightly(program_of(line), 0)


class TheAskers(Clashing):
    def test_what_is_handed_in_stays_as_it_was(self):
        program = program_of("f fn x x", "it + empty get a 1", "main f")
        some = [2, 0, 0, 3, 1]
        before = copy.deepcopy((program, some))
        hold(program, 1, some)
        clash(program)
        self.assertEqual((program, some), before)

    def test_asked_again_the_same_and_new(self):
        program = program_of("main + empty 1")
        first = clash(program)
        first[1].append(7)
        self.assertEqual(clash(program), ("main", [0, 1]))


if __name__ == "__main__":
    unittest.main()
