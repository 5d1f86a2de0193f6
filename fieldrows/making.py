"""Programs made into ones that find each field by its place, with numbers handed on."""

from fieldrows.finding import insides, scheme_of
from fieldrows.kinds import has_row, without
from fieldrows.nesting import inner_numbers
from fieldrows.offsets import offset
from fieldrows.schemes import inner_pairs
from fieldrows.texts import scopes_in

# In whose row the label of an expression has its offset: 0 is the expression's own kind, 1 that of the first
# expression in it, 2 that of the second. It is no matter whether the label's own field stands in that row.
ROWS = {
    "get": 1,
    "with": 2,
    "put": 2,
    "less": 1,
    "tag": 0,
    "wide": 1,
    "case": 1,
}


def made(program):
    known = {}
    done = []
    for named_def, told in zip(program, insides(program)):
        scheme = scheme_of(told)
        known[named_def[0]] = scheme
        maker = Maker(told[0], scheme[1], known)
        done.append((named_def[0], len(scheme[1]), maker.code(named_def[1], 0, [])))
    return done


# Makes the code of one def; known holds the schemes of this def and of those above by their names.
class Maker:
    def __init__(self, kinds, params, known):
        self.kinds = kinds
        self.params = params
        self.known = known

    # Goes no deeper than an expression may be.
    def code(self, expression, number, bound):
        if expression[0] == "name":
            return self.code_of_name(expression, number, bound)
        below = inner_numbers(expression, number)
        inner = [self.code(scope[0], other, scope[1]) for scope, other in zip(scopes_in(expression, bound), below)]
        parts = [inner.pop(0) if isinstance(part, tuple) else part for part in expression]
        if expression[0] in ROWS:
            at = label_at(expression)
            row = self.kinds[([number] + below)[ROWS[expression[0]]]][1]
            parts[at] = offset(row, expression[at], self.params)
        return tuple(parts)

    def code_of_name(self, expression, number, bound):
        name = expression[1]
        if name in bound:
            return expression
        # The def itself is used at the very kind of its scheme, so that each open row is filled with itself.
        scheme = self.known[name]
        rows = rows_filled(scheme[0], self.kinds[number])
        return ("use", name, tuple([offset(rows[tail], label, self.params) for tail, label in scheme[1]]))


def label_at(expression):
    return 2 if expression[0] == "case" else 1


# What each open row of a kind is filled with where the kind comes to the other one.
def rows_filled(kind, other):
    rows = {}
    waiting = [(kind, other)]
    while waiting:
        pair = waiting.pop()
        if has_row(pair[0]):
            rows[pair[0][1][2]] = without(pair[1][1], dict(pair[0][1][1]))
        waiting.extend(inner_pairs(pair[0], pair[1]))
    return rows
