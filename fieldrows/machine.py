"""A run of a made program, and how its values are read by a kind.

Values are whole numbers; ("fn", x, code, around), around being a tuple of what is bound and of the numbers handed to
the def; ("rec", values), a tuple; ("one", number, value). None is ever changed.
"""

from fieldrows.reckoning import Reckoner, binding, sort_of, worked


def run_made(code, most):
    machine = Machine(code, most)
    main = machine.defs["main"]
    machine.begin(main[1], ({}, [0] * main[0]))
    machine.run_on()
    if machine.ended is None:
        return ("value", machine.steps, told(machine.come.pop()))
    return (machine.ended[0], machine.steps, machine.ended[1])


class Machine(Reckoner):
    def __init__(self, code, most):
        Reckoner.__init__(self, most)
        self.defs = dict([(name, (many, inner)) for name, many, inner in code])

    def go_on(self, expression, around, parts):
        WAYS[expression[0]](self, expression, around, parts)


def number_of(pair, numbers):
    if pair[1] is None:
        return pair[0]
    return pair[0] + numbers[pair[1]]


def bound_too(around, name, value):
    return (binding(around[0], name, value), around[1])


def of_num(machine, expression, around, parts):
    machine.tell(expression[1])


def of_name(machine, expression, around, parts):
    machine.tell(around[0][expression[1]])


def of_use(machine, expression, around, parts):
    if machine.step():
        numbers = [number_of(pair, around[1]) for pair in expression[2]]
        machine.begin(machine.defs[expression[1]][1], ({}, numbers))


def of_fn(machine, expression, around, parts):
    machine.tell(("fn", expression[1], expression[2], around))


def of_do(machine, expression, around, parts):
    if machine.step():
        machine.begin(parts[0][2], bound_too(parts[0][3], parts[0][1], parts[1]))


def of_empty(machine, expression, around, parts):
    machine.tell(("rec", ()))


def of_get(machine, expression, around, parts):
    machine.tell(parts[0][1][number_of(expression[1], around[1])])


def of_with(machine, expression, around, parts):
    at = number_of(expression[1], around[1])
    values = parts[1][1]
    machine.tell(("rec", values[:at] + (parts[0],) + values[at:]))


def of_put(machine, expression, around, parts):
    at = number_of(expression[1], around[1])
    values = parts[1][1]
    machine.tell(("rec", values[:at] + (parts[0],) + values[at + 1:]))


def of_less(machine, expression, around, parts):
    at = number_of(expression[1], around[1])
    values = parts[0][1]
    machine.tell(("rec", values[:at] + values[at + 1:]))


def of_tag(machine, expression, around, parts):
    machine.tell(("one", number_of(expression[1], around[1]), parts[0]))


def of_wide(machine, expression, around, parts):
    number = parts[0][1]
    if number >= number_of(expression[1], around[1]):
        number += 1
    machine.tell(("one", number, parts[0][2]))


def of_case(machine, expression, around, parts):
    at = number_of(expression[2], around[1])
    number = parts[0][1]
    if number == at:
        machine.begin(expression[4], bound_too(around, expression[3], parts[0][2]))
        return
    if number > at:
        number -= 1
    machine.begin(expression[6], bound_too(around, expression[5], ("one", number, parts[0][2])))


def of_if(machine, expression, around, parts):
    machine.begin(expression[2] if parts[0] != 0 else expression[3], around)


def of_working(machine, expression, around, parts):
    machine.tell(worked(expression[0], parts[0], parts[1]))


# never is not here: no choice comes of what it is of.
WAYS = {
    "num": of_num,
    "name": of_name,
    "use": of_use,
    "fn": of_fn,
    "do": of_do,
    "empty": of_empty,
    "get": of_get,
    "with": of_with,
    "put": of_put,
    "less": of_less,
    "tag": of_tag,
    "wide": of_wide,
    "case": of_case,
    "if": of_if,
    "+": of_working,
    "-": of_working,
    "*": of_working,
    "<": of_working,
}


# Each value ahead of those in it, and made from the last to the first, as calls within calls might be too many.
def told(value):
    found = []
    waiting = [value]
    while waiting:
        found.append(waiting.pop())
        waiting.extend(held_in(found[-1])[::-1])
    done = []
    for part in reversed(found):
        # The first one held in it was told last.
        done.append(told_part(part, [done.pop() for held in held_in(part)]))
    return done[0]


def held_in(value):
    if sort_of(value) == "rec":
        return list(value[1])
    if sort_of(value) == "one":
        return [value[2]]
    return []


def told_part(value, held):
    if sort_of(value) == "rec":
        return ("rec", tuple(held))
    if sort_of(value) == "one":
        return ("one", value[1], held[0])
    if sort_of(value) == "fn":
        return ("fn",)
    return value


# As told goes through a value, but through kinds and values beside one another.
def read_by(K, W):
    found = []
    waiting = [(K, W)]
    while waiting:
        found.append(waiting.pop())
        waiting.extend(read_in(found[-1][0], found[-1][1])[::-1])
    done = []
    for kind, value in reversed(found):
        done.append(read_part(kind, value, [done.pop() for held in read_in(kind, value)]))
    return done[0]


def read_in(kind, value):
    if kind[0] == "rec":
        return [(field[1], held) for field, held in zip(kind[1][1], value[1])]
    if kind[0] == "one":
        return [(kind[1][1][value[1]][1], value[2])]
    return []


def read_part(kind, value, held):
    if kind[0] == "rec":
        return ("rec", tuple([(field[0], part) for field, part in zip(kind[1][1], held)]))
    if kind[0] == "one":
        return ("one", kind[1][1][value[1]][0], held[0])
    return value
