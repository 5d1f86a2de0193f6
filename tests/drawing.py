"""Programs drawn at will: any ones, and ones that are let since they are drawn by kinds.

A chance is a random.Random with a seed of its own, so that the same programs are drawn each time.
"""

from fieldrows.errors import NoKind
from fieldrows.finding import schemes
from fieldrows.kinds import filled, numbers
from fieldrows.schemes import stands_for, tails_within
from fieldrows.solving import solved
from forms import NUM

LABELS = ("a", "b", "c", "d")
NAMES = ("x", "y", "z", "u", "v", "w")
DEFS = ("f", "g", "h", "k")
FORMS = {
    "fn": "xE", "do": "EE", "get": "LE", "with": "LEE", "put": "LEE", "less": "LE", "tag": "LE", "wide": "LE",
    "case": "ELxExE", "never": "E", "if": "EEE", "+": "EE", "-": "EE", "*": "EE", "<": "EE",
}


def any_expression(chance, known, depth, labels=LABELS[:2]):
    """Any expression of no more than so deep without open names."""
    leaves = ["num", "empty"] + ["name"] * (2 if known else 0)
    word = chance.choice(leaves if depth == 0 or chance.randrange(5) == 0 else list(FORMS))
    if word == "num":
        return ("num", chance.choice([0, 1, 2, 999999]))
    if word == "empty":
        return ("empty",)
    if word == "name":
        return ("name", chance.choice(known))
    taken = [word]
    for part in FORMS[word]:
        if part == "L":
            taken.append(chance.choice(labels))
        elif part == "x":
            taken.append(chance.choice(NAMES[:3]))
        else:
            more = [taken[-1]] if len(taken) > 1 and FORMS[word][len(taken) - 2] == "x" else []
            taken.append(any_expression(chance, known + more, depth - 1, labels))
    return tuple(taken)


def any_program(chance, depth=3):
    """Any program, which is seldom let."""
    names = [*DEFS[:chance.randrange(3)], "main"]
    return [(name, any_expression(chance, names[:at + 1], depth)) for at, name in enumerate(names)]


def let_program(chance, depth=4):
    """A program that is let, drawn def by def of kinds without numbers; their schemes are often wider."""
    program = []
    found = []
    for name in [*DEFS[:chance.randrange(len(DEFS) + 1)], "main"]:
        goal = drawn_goal(chance, name)
        drawer = Drawer(chance, name, goal, program, found)
        program.append((name, drawer.draw(goal, {}, depth)))
        found = schemes(program)
    return program


def drawn_goal(chance, name):
    if name == "main" and chance.randrange(4):
        return drawn_kind(chance, 2, ("num", "rec", "one", "rec", "one"))
    return drawn_kind(chance, 3, ("fun", "fun", "rec", "num", "one") if name == "main" else ("fun",))


def drawn_kind(chance, depth, sorts=("num", "num", "fun", "rec", "rec", "one", "one")):
    sort = chance.choice(sorts) if depth else "num"
    if sort == "num":
        return NUM
    if sort == "fun":
        return ("fun", drawn_kind(chance, depth - 1), drawn_kind(chance, depth - 1))
    # A choice of no labels has no value, so that nothing could be drawn of it.
    return (sort, drawn_row(chance, depth - 1, 1 if sort == "one" else 0))


def drawn_row(chance, depth, least=0, without=()):
    labels = [label for label in LABELS if label not in without]
    some = sorted(chance.sample(labels, min(len(labels), chance.randrange(least, 4))))
    return ("row", tuple((label, drawn_kind(chance, depth)) for label in some), None)


def less_field(row, label):
    return ("row", tuple(field for field in row[1] if field[0] != label), None)


def more_field(row, label, kind):
    return ("row", tuple(sorted([*row[1], (label, kind)], key=lambda field: field[0])), None)


class Drawer:
    """Draws an expression of a kind; known is a dict of the kinds of the names bound around."""

    def __init__(self, chance, name, goal, program, found):
        self.chance = chance
        self.name = name
        self.goal = goal
        self.above = list(zip([name for name, E in program], found))
        self.room = 70

    def draw(self, kind, known, depth):
        self.room -= 1
        ways = self.short_ways(kind, known)
        if depth > 0 and self.room > 20:
            own = getattr(self, "draw_" + kind[0])
            ways += [own, own, own, self.draw_do, self.draw_use, self.draw_use, self.draw_use, self.draw_get]
            ways += [self.draw_if, self.draw_case, self.draw_case]
        if not ways:
            ways = [getattr(self, "draw_" + kind[0])]
        return self.chance.choice(ways)(kind, known, depth - 1)

    def short_ways(self, kind, known):
        ways = []
        same = [name for name in known if known[name] == kind]
        if same:
            ways += [lambda *rest: ("name", self.chance.choice(same))] * 3
        never = [name for name in known if known[name] == ("one", ("row", (), None))]
        if never:
            ways += [lambda *rest: ("never", ("name", self.chance.choice(never)))] * 3
        if kind == self.goal and self.name not in known and self.chance.randrange(8) == 0:
            ways.append(lambda *rest: ("name", self.name))
        for name, scheme in self.above:
            if name not in known and stands_for(scheme, kind):
                ways.append(lambda *rest: ("name", name))
                return ways
        return ways

    def draw_num(self, kind, known, depth):
        if depth < 0 or self.chance.randrange(3) == 0:
            return ("num", self.chance.choice([0, 1, 2, 3, 7, 999999]))
        word = self.chance.choice("+-*<")
        return (word, self.draw(NUM, known, depth), self.draw(NUM, known, depth))

    def draw_fun(self, kind, known, depth):
        name = self.chance.choice(NAMES)
        return ("fn", name, self.draw(kind[2], {**known, name: kind[1]}, depth))

    def draw_rec(self, kind, known, depth):
        row = kind[1]
        ways = [self.draw_with] if row[1] else [lambda *rest: ("empty",)]
        if depth >= 0:
            ways += [self.draw_less] * (len(row[1]) < len(LABELS)) + [self.draw_put] * (len(row[1]) > 0)
        return self.chance.choice(ways)(kind, known, depth)

    def draw_with(self, kind, known, depth):
        label, inside = self.chance.choice(kind[1][1])
        return ("with", label, self.draw(inside, known, depth), self.draw(("rec", less_field(kind[1], label)), known, depth))

    def draw_put(self, kind, known, depth):
        label, inside = self.chance.choice(kind[1][1])
        first = more_field(less_field(kind[1], label), label, drawn_kind(self.chance, 1))
        return ("put", label, self.draw(inside, known, depth), self.draw(("rec", first), known, depth))

    def draw_less(self, kind, known, depth):
        label = self.chance.choice([label for label in LABELS if label not in dict(kind[1][1])])
        return ("less", label, self.draw(("rec", more_field(kind[1], label, drawn_kind(self.chance, 1))), known, depth))

    def draw_one(self, kind, known, depth):
        if depth >= 0 and len(kind[1][1]) > 1 and self.chance.randrange(2):
            label = self.chance.choice(kind[1][1])[0]
            return ("wide", label, self.draw(("one", less_field(kind[1], label)), known, depth))
        label, inside = self.chance.choice(kind[1][1])
        return ("tag", label, self.draw(inside, known, depth))

    def draw_do(self, kind, known, depth):
        first = drawn_kind(self.chance, 2)
        return ("do", self.draw(("fun", first, kind), known, depth), self.draw(first, known, depth))

    def draw_use(self, kind, known, depth):
        """A def above that comes to this kind when it is called, at a kind drawn at will as far as it is free."""
        above = list(self.above)
        self.chance.shuffle(above)
        for name, scheme in above:
            if scheme[0][0] == "fun" and name not in known:
                first = self.handed(scheme, kind)
                if first is not None:
                    return ("do", ("name", name), self.draw(first, known, depth))
        return self.draw(kind, known, depth)

    def handed(self, scheme, kind):
        tails = tails_within(scheme[0])
        try:
            filling, lacks = solved([(scheme[0][2], kind)], [(("row", (), n), label) for n, label in scheme[1]])
        except NoKind:
            return None
        first = filled(scheme[0][1], filling)
        for number in numbers(first):
            if number in tails:
                without = [label for n, label in lacks if n == number]
                more = drawn_row(self.chance, 1, 0, without)
            else:
                more = drawn_kind(self.chance, 1)
            first = filled(first, {number: more})
        # Of a choice of no labels nothing can be drawn.
        return None if repr(("one", ("row", (), None))) in repr(first) else first

    def draw_get(self, kind, known, depth):
        label = self.chance.choice(LABELS)
        own = [name for name in known if known[name][0] == "rec" and (kind in dict(known[name][1][1]).values())]
        if own and self.chance.randrange(3):
            name = self.chance.choice(own)
            return ("get", self.chance.choice([la for la, inside in known[name][1][1] if inside == kind]), ("name", name))
        row = more_field(drawn_row(self.chance, 1, 0, [label]), label, kind)
        return ("get", label, self.draw(("rec", row), known, depth))

    def draw_if(self, kind, known, depth):
        return ("if", self.draw(NUM, known, depth), self.draw(kind, known, depth), self.draw(kind, known, depth))

    def draw_case(self, kind, known, depth):
        ones = [name for name in known if known[name][0] == "one" and known[name][1][1]]
        if ones and self.chance.randrange(3):
            name = self.chance.choice(ones)
            first, whole = ("name", name), known[name]
        else:
            whole = ("one", drawn_row(self.chance, 1, 1))
            first = self.draw(whole, known, depth)
        label, inside = self.chance.choice(whole[1][1])
        met, left = self.chance.choice(NAMES), self.chance.choice(NAMES)
        return (
            "case", first, label,
            met, self.draw(kind, {**known, met: inside}, depth),
            left, self.draw(kind, {**known, left: ("one", less_field(whole[1], label))}, depth),
        )


def row_program(chance):
    """A program that is let, of defs that go through a record or a choice whose row is open, and use one another."""
    program = []
    for name in (*DEFS, "main"):
        while True:
            E = drawn_main(chance, program) if name == "main" else drawn_passage(chance, program)
            try:
                schemes([*program, (name, E)])
            except NoKind:
                continue
            program.append((name, E))
            break
    return program


def drawn_passage(chance, program):
    """A function that goes through what it is handed in some steps, each of which may be a use of a def above."""
    if chance.randrange(5) == 0:
        # Of two records: the second goes in as a field.
        body = drawn_steps(chance, ("name", "r"), "rec", program, [("name", "r"), ("name", "s")])
        return ("fn", "s", ("fn", "r", body))
    sort = chance.choice(["rec", "rec", "one"])
    return ("fn", "r", drawn_steps(chance, ("name", "r"), sort, program, [("name", "r")]))


def drawn_steps(chance, E, sort, program, near):
    for _ in range(chance.randrange(1, 5)):
        E = drawn_step(chance, E, sort, program, near)
    return E


def drawn_step(chance, E, sort, program, near):
    label = chance.choice("abcde")
    if program and chance.randrange(3) == 0:
        return ("do", ("name", chance.choice(program)[0]), E)
    if sort == "rec":
        field = chance.choice([("num", chance.randrange(9)), chance.choice(near), ("get", chance.choice("abcde"), near[0])])
        ways = [("with", label, field, E), ("put", label, field, E), ("less", label, E), ("with", label, field, E)]
        ways.append(("if", ("get", label, near[0]), E, E))
        return chance.choice(ways)
    again = ("tag", chance.choice("abcde"), ("name", "x"))
    met = chance.choice([again, again, ("wide", label, again)])
    left = chance.choice([("name", "y"), ("wide", label, ("name", "y"))])
    return chance.choice([("wide", label, E), ("case", E, label, "x", met, "y", left), ("case", E, label, "x", met, "y", left)])


def drawn_main(chance, program):
    """Some of the defs, used of records and choices of which all is known."""
    fields = []
    for label in chance.sample("vwxyz", chance.randrange(1, 4)):
        E = drawn_record(chance, program) if chance.randrange(3) else ("tag", chance.choice("abcde"), ("num", chance.randrange(9)))
        for _ in range(chance.randrange(1, 3)):
            E = ("do", ("name", chance.choice(program)[0]), E)
        fields.append((label, E))
    E = ("empty",)
    for label, field in fields:
        E = ("with", label, field, E)
    return E if chance.randrange(4) else fields[0][1]


def drawn_record(chance, program):
    E = ("empty",)
    for label in chance.sample("abcdefg", chance.randrange(7)):
        E = ("with", label, ("num", chance.randrange(9)), E)
    return E
