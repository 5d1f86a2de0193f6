"""What the rule of each place of a def wants of the kinds of its places and of the names bound in it.

The kind of a place is the open kind of the place's number; all other open kinds and rows have greater numbers.
A tail behind a field shall lack its label by itself: so the rules of fields tell no lacks.
"""

from fieldrows.kinds import filled, numbers
from fieldrows.nesting import inner_numbers
from fieldrows.places import inner, places
from fieldrows.schemes import renaming, tails_within

NUM = ("num",)


# For each place a tuple of pairs and lacks, in the form of solved. The schemes of the defs above are told by name.
def wants_of(name, E, above):
    known = dict([(other, ("above", above[other])) for other in above])
    known[name] = ("bound", ("var", 0))
    free = Free(len(places(E)))
    wants = []
    waiting = [(E, known)]
    while waiting:
        scope = waiting.pop()
        place = Place(scope[0], len(wants), free)
        wants.append(wanted(place, scope[1], free))
        # Turned round, as the last one that waits is looked at first.
        waiting.extend(scopes_in(place, scope[1])[::-1])
    return wants


class Free:
    def __init__(self, least):
        self.least = least

    def take(self):
        self.least += 1
        return self.least - 1


# A place with all kinds that its rule may speak of.
class Place:
    def __init__(self, expression, number, free):
        self.expression = expression
        self.kind = ("var", number)
        self.below = [("var", other) for other in inner_numbers(expression, number)]
        self.first_bound = ("var", free.take())
        self.second_bound = ("var", free.take())
        self.any_kind = ("var", free.take())
        self.any_row = free.take()


# The expressions straight in a place, each with what the names known in it stand for.
def scopes_in(place, known):
    scopes = [(part, known) for part in inner(place.expression)]
    if place.expression[0] == "fn":
        scopes[0] = (place.expression[2], binding(known, place.expression[1], place.first_bound))
    if place.expression[0] == "case":
        scopes[1] = (place.expression[4], binding(known, place.expression[3], place.first_bound))
        scopes[2] = (place.expression[6], binding(known, place.expression[5], place.second_bound))
    return scopes


def binding(known, name, kind):
    more = dict(known)
    more[name] = ("bound", kind)
    return more


def wanted(place, known, free):
    if place.expression[0] != "name":
        return (RULES[place.expression[0]](place), [])
    meant = known[place.expression[1]]
    if meant[0] == "bound":
        return ([(place.kind, meant[1])], [])
    return wanted_of_use(place, meant[1], free)


# Each use of a def has numbers of its own, so that it is used at its own kind.
def wanted_of_use(place, scheme, free):
    names = dict([(number, free.take()) for number in numbers(scheme[0])])
    kind = filled(scheme[0], renaming(names, tails_within(scheme[0])))
    return ([(place.kind, kind)], [(("row", (), names[number]), label) for number, label in scheme[1]])


def with_field(sort, label, kind, tail):
    return (sort, ("row", ((label, kind),), tail))


def without_fields(sort, tail):
    return (sort, ("row", (), tail))


def of_num(place):
    return [(place.kind, NUM)]


def of_fn(place):
    return [(place.kind, ("fun", place.first_bound, place.below[0]))]


def of_do(place):
    return [(place.below[0], ("fun", place.below[1], place.kind))]


def of_empty(place):
    return [(place.kind, without_fields("rec", None))]


def of_get(place):
    return [(place.below[0], with_field("rec", place.expression[1], place.kind, place.any_row))]


def of_with(place):
    more = with_field("rec", place.expression[1], place.below[0], place.any_row)
    return [(place.below[1], without_fields("rec", place.any_row)), (place.kind, more)]


def of_put(place):
    label = place.expression[1]
    first = with_field("rec", label, place.any_kind, place.any_row)
    changed = with_field("rec", label, place.below[0], place.any_row)
    return [(place.below[1], first), (place.kind, changed)]


def of_less(place):
    first = with_field("rec", place.expression[1], place.any_kind, place.any_row)
    return [(place.below[0], first), (place.kind, without_fields("rec", place.any_row))]


def of_tag(place):
    return [(place.kind, with_field("one", place.expression[1], place.below[0], place.any_row))]


def of_wide(place):
    wider = with_field("one", place.expression[1], place.any_kind, place.any_row)
    return [(place.below[0], without_fields("one", place.any_row)), (place.kind, wider)]


def of_case(place):
    whole = with_field("one", place.expression[2], place.first_bound, place.any_row)
    rest = without_fields("one", place.any_row)
    return [(place.below[0], whole), (place.second_bound, rest)] + both_ways(place)


def of_never(place):
    return [(place.below[0], without_fields("one", None))]


def of_if(place):
    return [(place.below[0], NUM)] + both_ways(place)


def both_ways(place):
    return [(place.below[1], place.kind), (place.below[2], place.kind)]


def of_working(place):
    return [(place.below[0], NUM), (place.below[1], NUM), (place.kind, NUM)]


RULES = {
    "num": of_num,
    "fn": of_fn,
    "do": of_do,
    "empty": of_empty,
    "get": of_get,
    "with": of_with,
    "put": of_put,
    "less": of_less,
    "tag": of_tag,
    "wide": of_wide,
    "case": of_case,
    "never": of_never,
    "if": of_if,
    "+": of_working,
    "-": of_working,
    "*": of_working,
    "<": of_working,
}
