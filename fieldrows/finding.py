"""The kinds of a program's defs and of the places in them, and where a def has none."""

from fieldrows.errors import NoKind
from fieldrows.kinds import filled, numbers
from fieldrows.schemes import named, renaming, tails_within
from fieldrows.solving import solved
from fieldrows.wants import wants_of


def schemes(program):
    return [scheme_of(told) for told in insides(program)]


def scheme_of(told):
    return named(told[0][0], told[1])


def inside(program, k):
    return insides(program[:k + 1])[k]


# What inside tells, of each def.
def insides(program):
    found = []
    above = {}
    for name, E in program:
        found.append(kinds_told(wants_of(name, E, above)))
        above[name] = scheme_of(found[-1])
    return found


def hold(program, k, some):
    above = dict([(program[number][0], scheme) for number, scheme in enumerate(schemes(program[:k]))])
    return held_together(wants_of(program[k][0], program[k][1], above), some)


def clash(program):
    above = {}
    for name, E in program:
        wants = wants_of(name, E, above)
        try:
            above[name] = scheme_of(kinds_told(wants))
        except NoKind:
            return (name, clashing(wants))
    return None


# The kind of each place, and what open rows must lack, where the rules of all places are kept.
def kinds_told(wants):
    found = solved_together(wants)
    return named_together([filled(("var", number), found[0]) for number in range(len(wants))], found[1])


def solved_together(wants):
    pairs = []
    lacks = []
    for more_pairs, more_lacks in wants:
        pairs.extend(more_pairs)
        lacks.extend(more_lacks)
    return solved(pairs, lacks)


# As a scheme is named, but over all kinds, so that the first one, which is the scheme's, is named as there.
def named_together(kinds, lacks):
    names = {}
    tails = {}
    for kind in kinds:
        for number in numbers(kind):
            names.setdefault(number, len(names))
        tails.update(tails_within(kind))
    filling = renaming(names, tails)
    return ([filled(kind, filling) for kind in kinds], sorted([(names[number], label) for number, label in lacks]))


def held_together(wants, some):
    try:
        solved_together([wants[number] for number in sorted(set(some))])
    except NoKind:
        return False
    return True


def clashing(wants):
    numbered = list(range(len(wants)))
    staying = numbered
    for number in reversed(numbered):
        others = [other for other in staying if other != number]
        if not held_together(wants, others):
            staying = others
    return staying
