"""A run of a program by its labels.

Values are whole numbers; ("fn", x, E, bound), bound being a dict of what is bound around it; ("rec", fields), a dict;
("one", label, value). None is ever changed, as it may stand in many places: another one is made.
"""

from fieldrows.nesting import inner_numbers
from fieldrows.reckoning import Reckoner, binding, sort_of, worked

MOST_PARTS = 200


def run(program, most):
    plain = Plain(program, most)
    plain.begin(plain.defs["main"], {})
    plain.run_on()
    if plain.ended is None:
        return ("value", plain.steps, told(plain.come.pop()))
    return (plain.ended[0], plain.steps, plain.ended[1])


# The expression, and all in it, each with its def's name and its place behind it: there a run may be stuck.
def marked(expression, name, number):
    below = inner_numbers(expression, number)
    parts = []
    for part in expression:
        if isinstance(part, tuple):
            parts.append(marked(part, name, below.pop(0)))
        else:
            parts.append(part)
    return tuple(parts + [(name, number)])


class Plain(Reckoner):
    def __init__(self, program, most):
        Reckoner.__init__(self, most)
        self.defs = dict([(name, marked(E, name, 0)) for name, E in program])

    def go_on(self, expression, bound, parts):
        WAYS[expression[0]](self, expression, bound, parts)

    def stick(self, expression):
        self.ended = ("stuck", expression[-1])


def has_field(value, label):
    return sort_of(value) == "rec" and label in value[1]


def has_no_field(value, label):
    return sort_of(value) == "rec" and label not in value[1]


def with_field(record, label, value):
    fields = dict(record[1])
    fields[label] = value
    return ("rec", fields)


def without_field(record, label):
    fields = dict(record[1])
    fields.pop(label)
    return ("rec", fields)


def of_num(plain, expression, bound, parts):
    plain.tell(expression[1])


def of_name(plain, expression, bound, parts):
    if expression[1] in bound:
        plain.tell(bound[expression[1]])
    elif plain.step():
        plain.begin(plain.defs[expression[1]], {})


def of_fn(plain, expression, bound, parts):
    plain.tell(("fn", expression[1], expression[2], bound))


def of_do(plain, expression, bound, parts):
    if sort_of(parts[0]) != "fn":
        plain.stick(expression)
    elif plain.step():
        plain.begin(parts[0][2], binding(parts[0][3], parts[0][1], parts[1]))


def of_empty(plain, expression, bound, parts):
    plain.tell(("rec", {}))


def of_get(plain, expression, bound, parts):
    if has_field(parts[0], expression[1]):
        plain.tell(parts[0][1][expression[1]])
    else:
        plain.stick(expression)


def of_with(plain, expression, bound, parts):
    if has_no_field(parts[1], expression[1]):
        plain.tell(with_field(parts[1], expression[1], parts[0]))
    else:
        plain.stick(expression)


def of_put(plain, expression, bound, parts):
    if has_field(parts[1], expression[1]):
        plain.tell(with_field(parts[1], expression[1], parts[0]))
    else:
        plain.stick(expression)


def of_less(plain, expression, bound, parts):
    if has_field(parts[0], expression[1]):
        plain.tell(without_field(parts[0], expression[1]))
    else:
        plain.stick(expression)


def of_tag(plain, expression, bound, parts):
    plain.tell(("one", expression[1], parts[0]))


def of_wide(plain, expression, bound, parts):
    if sort_of(parts[0]) == "one" and parts[0][1] != expression[1]:
        plain.tell(parts[0])
    else:
        plain.stick(expression)


def of_case(plain, expression, bound, parts):
    if sort_of(parts[0]) != "one":
        plain.stick(expression)
    elif parts[0][1] == expression[2]:
        plain.begin(expression[4], binding(bound, expression[3], parts[0][2]))
    else:
        plain.begin(expression[6], binding(bound, expression[5], parts[0]))


def of_never(plain, expression, bound, parts):
    plain.stick(expression)


def of_if(plain, expression, bound, parts):
    if sort_of(parts[0]) != "num":
        plain.stick(expression)
    elif parts[0] != 0:
        plain.begin(expression[2], bound)
    else:
        plain.begin(expression[3], bound)


def of_working(plain, expression, bound, parts):
    if sort_of(parts[0]) == "num" and sort_of(parts[1]) == "num":
        plain.tell(worked(expression[0], parts[0], parts[1]))
    else:
        plain.stick(expression)


WAYS = {
    "num": of_num,
    "name": of_name,
    "fn": of_fn,
    "do": of_do,
    "empty": of_empty,
    "get": of_get,
    "with": of_with,
    "put": of_put,
    "less": of_less,
    "tag": of_tag,
    "wide": of_wide,
    "case": of_case,
    "never": of_never,
    "if": of_if,
    "+": of_working,
    "-": of_working,
    "*": of_working,
    "<": of_working,
}


# The value and all in it, each ahead of those in it, are first found in a list, as they may be a great many.
def told(value):
    found = []
    waiting = [value]
    while waiting:
        found.append(waiting.pop())
        if len(found) > MOST_PARTS:
            return ("deep",)
        waiting.extend(held_in(found[-1])[::-1])
    done = []
    for part in reversed(found):
        # The first one held in it was told last.
        done.append(told_part(part, [done.pop() for held in held_in(part)]))
    return done[0]


def held_in(value):
    if sort_of(value) == "rec":
        return [value[1][label] for label in sorted(value[1])]
    if sort_of(value) == "one":
        return [value[2]]
    return []


def told_part(value, held):
    if sort_of(value) == "rec":
        return ("rec", tuple(zip(sorted(value[1]), held)))
    if sort_of(value) == "one":
        return ("one", value[1], held[0])
    if sort_of(value) == "fn":
        return ("fn",)
    return value
