"""The rules of places, told once more for the tests: whether told kinds keep them, and which kinds of a small world do."""

from fieldrows.kinds import parts
from fieldrows.places import inner, places
from fieldrows.schemes import stands_for
from forms import NUM, one, rec

WORKINGS = ("+", "-", "*", "<")


def inner_numbers(expression, number):
    parts_in = inner(expression)
    return [number + 1 + sum(len(places(part)) for part in parts_in[:at]) for at in range(len(parts_in))]


def broken_rules(name, E, above, kinds, lacks):
    """The places whose rules are not kept by these kinds, the open rows lacking what is told of them.

    above: the scheme of each def above by its name.
    """
    known = {other: ("above", scheme) for other, scheme in above.items()}
    known[name] = ("kind", kinds[0])
    broken = [number for number, kind in enumerate(kinds) if parts(kind) > 200 or not well_formed(kind, lacks)]
    waiting = [(E, 0, known)]
    while waiting:
        expression, number, scope = waiting.pop()
        below = inner_numbers(expression, number)
        inside = [kinds[other] for other in below]
        if not kept(expression, kinds[number], inside, scope, lacks):
            broken.append(number)
            continue
        for at, (part, other) in enumerate(zip(inner(expression), below)):
            waiting.append((part, other, {**scope, **bound(expression, at, kinds[number], inside)}))
    return sorted(broken)


def well_formed(kind, lacks):
    if kind[0] == "fun":
        return well_formed(kind[1], lacks) and well_formed(kind[2], lacks)
    if kind[0] not in ("rec", "one"):
        return True
    labels = [label for label, part in kind[1][1]]
    tail = kind[1][2]
    return (
        labels == sorted(set(labels))
        and all(tail is None or (tail, label) in lacks for label in labels)
        and all(well_formed(part, lacks) for label, part in kind[1][1])
    )


def bound(expression, at, this, inside):
    """What the expression binds in the expression that stands in it as number at."""
    if expression[0] == "fn":
        return {expression[1]: ("kind", this[1])}
    if expression[0] == "case" and at == 1:
        return {expression[3]: ("kind", field(inside[0], expression[2]))}
    if expression[0] == "case" and at == 2:
        return {expression[5]: ("kind", ("one", rest(inside[0], expression[2])))}
    return {}


def field(kind, label):
    return dict(kind[1][1]).get(label)


def rest(kind, label):
    return ("row", tuple(part for part in kind[1][1] if part[0] != label), kind[1][2])


def has(kind, sort, label, lacks):
    """Whether the kind is rec or one (label k | r), r lacking the label."""
    return kind[0] == sort and field(kind, label) is not None and (kind[1][2] is None or (kind[1][2], label) in lacks)


def kept(expression, this, inside, known, lacks):
    word, label = expression[0], expression[1] if len(expression) > 1 else None
    if word == "num":
        return this == NUM
    if word == "name":
        sort, meant = known[label]
        return this == meant if sort == "kind" else comes_of(meant, this, lacks)
    if word == "fn":
        return this[0] == "fun" and this[2] == inside[0]
    if word == "do":
        return inside[0] == ("fun", inside[1], this)
    if word == "empty":
        return this == rec()
    if word == "get":
        return has(inside[0], "rec", label, lacks) and field(inside[0], label) == this
    if word == "with":
        return (
            has(this, "rec", label, lacks) and field(this, label) == inside[0] and inside[1] == ("rec", rest(this, label))
        )
    if word == "put":
        return (
            has(this, "rec", label, lacks)
            and has(inside[1], "rec", label, lacks)
            and field(this, label) == inside[0]
            and rest(inside[1], label) == rest(this, label)
        )
    if word == "less":
        return has(inside[0], "rec", label, lacks) and this == ("rec", rest(inside[0], label))
    if word == "tag":
        return has(this, "one", label, lacks) and field(this, label) == inside[0]
    if word == "wide":
        return has(this, "one", label, lacks) and inside[0] == ("one", rest(this, label))
    if word == "case":
        return has(inside[0], "one", expression[2], lacks) and inside[1] == this == inside[2]
    if word == "never":
        return inside[0] == one()
    if word == "if":
        return inside[0] == NUM and inside[1] == this == inside[2]
    return word in WORKINGS and inside == [NUM, NUM] and this == NUM


def comes_of(scheme, kind, lacks):
    """Whether the scheme stands for a kind that may have open rows which lack what is told of them."""
    filling = {}
    waiting = [(scheme[0], kind)]
    while waiting:
        own, other = waiting.pop()
        if own[0] == "var":
            if filling.setdefault(own[1], other) != other:
                return False
        elif own[0] != other[0]:
            return False
        elif own[0] == "fun":
            waiting.extend([(own[1], other[1]), (own[2], other[2])])
        elif own[0] != "num":
            left = dict(other[1][1])
            if not set(dict(own[1][1])) <= set(left):
                return False
            waiting.extend([(part, left.pop(label)) for label, part in own[1][1]])
            behind = (tuple(sorted(left.items())), other[1][2])
            if own[1][2] is None:
                if behind != ((), None):
                    return False
            elif filling.setdefault(own[1][2], behind) != behind:
                return False
    return all(lacking(filling[number], label, lacks) for number, label in scheme[1])


def lacking(behind, label, lacks):
    return label not in dict(behind[0]) and (behind[1] is None or (behind[1], label) in lacks)


class World:
    """All kinds that places can have whose kinds, and those of the names bound, are all among some few without numbers.

    above: the scheme of each def above by its name; some: the places whose rules are kept, or all.
    """

    def __init__(self, kinds, above, some=None):
        self.kinds = set(kinds)
        self.some = some
        self.found = {}
        self.above = {
            name: {kind for kind in kinds if stands_for(scheme, kind)} for name, scheme in above.items()
        }

    def kinds_of_def(self, name, E):
        return {kind for kind in self.kinds if kind in self.kinds_of(E, 0, {**self.above, name: {kind}})}

    def kinds_of(self, expression, number, known):
        """known: for each name the kinds that it can have at each place, which is one alone for a bound name."""
        names = sorted({place[1] for place in places(expression) if place[0] == "name"})
        key = (number, *[frozenset(known.get(name, ())) for name in names])
        if key not in self.found:
            self.found[key] = self.found_anew(expression, number, known)
        return self.found[key]

    def found_anew(self, expression, number, known):
        below = inner_numbers(expression, number)
        parts_in = inner(expression)
        if expression[0] == "fn":
            found = set()
            for kind in self.kinds:
                inside = [self.kinds_of(parts_in[0], below[0], {**known, expression[1]: {kind}})]
                found |= self.ruled(expression, number, inside, known, kind)
            return found
        if expression[0] == "case":
            return self.kinds_of_case(expression, number, known, below)
        inside = [self.kinds_of(part, other, known) for part, other in zip(parts_in, below)]
        return self.ruled(expression, number, inside, known)

    def kinds_of_case(self, expression, number, known, below):
        first = self.kinds_of(expression[1], below[0], known)
        met = {kind: self.kinds_of(expression[4], below[1], {**known, expression[3]: {kind}}) for kind in self.kinds}
        left = {kind: self.kinds_of(expression[6], below[2], {**known, expression[5]: {kind}}) for kind in self.kinds}
        if not self.counts(number):
            return self.kinds if first and any(met.values()) and any(left.values()) else set()
        found = set()
        for kind in first:
            if has(kind, "one", expression[2], ()) and ("one", rest(kind, expression[2])) in left:
                if field(kind, expression[2]) in met:
                    ways = left[("one", rest(kind, expression[2]))]
                    found |= met[field(kind, expression[2])] & ways
        return found

    def counts(self, number):
        return self.some is None or number in self.some

    def ruled(self, expression, number, inside, known, first=None):
        """The kinds of a place whose inner places can have these kinds; first is that of the name that fn binds."""
        if not all(inside):
            return set()
        if not self.counts(number):
            return self.kinds
        if expression[0] == "name":
            return known[expression[1]]
        if expression[0] == "fn":
            return {("fun", first, kind) for kind in inside[0]} & self.kinds
        return {this for this in self.kinds if self.some_kept(expression, this, inside)}

    def some_kept(self, expression, this, inside):
        if len(inside) == 0:
            return kept(expression, this, [], {}, ())
        if len(inside) == 1:
            return any(kept(expression, this, [kind], {}, ()) for kind in inside[0])
        if expression[0] == "do":
            return any(("fun", kind, this) in inside[0] for kind in inside[1])
        if expression[0] == "if":
            return NUM in inside[0] and this in inside[1] and this in inside[2]
        if expression[0] in WORKINGS:
            return this == NUM and NUM in inside[0] and NUM in inside[1]
        return any(kept(expression, this, [kind, other], {}, ()) for kind in inside[0] for other in inside[1])
