"""Kinds and rows, put down shortly, for the tests of kinds."""

NUM = ("num",)


def var(n):
    return ("var", n)


def fun(*kinds):
    """From the first to the others: fun(a, b, c) is from a to (from b to c)."""
    if len(kinds) == 1:
        return kinds[0]
    return ("fun", kinds[0], fun(*kinds[1:]))


def row(*tail, **fields):
    return ("row", tuple(sorted(fields.items())), tail[0] if tail else None)


def rec(*tail, **fields):
    return ("rec", row(*tail, **fields))


def one(*tail, **fields):
    return ("one", row(*tail, **fields))


def sized(many):
    """A kind of so many parts, 3 or more."""
    if many % 2 == 0:
        return fun(rec(), sized(many - 3)) if many > 4 else rec(a=NUM)
    return fun(*[NUM] * ((many + 1) // 2))


def long_fun(depth, inmost):
    """Funs within the second kind of one another: each has two parts more."""
    kind = inmost
    for _ in range(depth):
        kind = ("fun", NUM, kind)
    return kind


def left_fun(depth, inmost):
    """Funs within the first kind of one another: each has two parts more."""
    kind = inmost
    for _ in range(depth):
        kind = ("fun", kind, NUM)
    return kind


def long_rec(depth, inmost, tail=None):
    """Recs within one another: each has three parts more."""
    kind = inmost
    for _ in range(depth):
        kind = ("rec", ("row", (("a", kind),), tail))
    return kind


def words(kind):
    """All that stands in a kind, as texts: == on kinds that are some thousand deep is more than Python can do."""
    found = []
    waiting = [kind]
    while waiting:
        part = waiting.pop()
        if isinstance(part, tuple):
            found.append(f"tuple of {len(part)}")
            waiting.extend(part[::-1])
        else:
            found.append(repr(part))
    return found


def small_kinds(numbers, tails, labels, depth):
    """Each kind of no more than so deep with these open kinds, tails and labels, of at most two fields a row."""
    leaves = [NUM] + [var(n) for n in numbers]
    if depth == 0:
        return leaves
    inner = small_kinds(numbers, tails, labels, depth - 1)
    kinds = leaves + [("fun", first, second) for first in inner for second in inner]
    for some in small_rows(inner, tails, labels):
        kinds.extend([("rec", some), ("one", some)])
    return kinds


def small_rows(inner, tails, labels):
    rows = []
    for tail in [None, *tails]:
        rows.append(("row", (), tail))
        for at, label in enumerate(labels):
            for kind in inner:
                rows.append(("row", ((label, kind),), tail))
                for other in labels[at + 1:]:
                    rows.extend([("row", ((label, kind), (other, more)), tail) for more in inner])
    return rows


def random_kind(chance, numbers, tails, labels, depth):
    """A kind by this chance, which is a random.Random with a seed of its own."""
    sort = chance.choice(["num", "var", "var", "fun", "rec", "rec", "one"])
    if sort == "num" or sort == "fun" and depth == 0:
        return NUM
    if sort == "var":
        return var(chance.choice(numbers))
    if sort == "fun":
        return (
            "fun",
            random_kind(chance, numbers, tails, labels, depth - 1),
            random_kind(chance, numbers, tails, labels, depth - 1),
        )
    return (sort, random_row(chance, numbers, tails, labels, depth))


def random_row(chance, numbers, tails, labels, depth):
    fields = []
    for label in labels:
        if depth > 0 and chance.randrange(2):
            fields.append((label, random_kind(chance, numbers, tails, labels, depth - 1)))
    return ("row", tuple(fields), chance.choice([None, *tails]))


def kind_of(text):
    """The kind that is written so: fun rec ( a k0 | r1 ) k0."""
    return scheme_of(text)[0]


def scheme_of(text):
    """The scheme that is written so: fun rec ( a k0 | r1 ) k0 where r1 a."""
    waiting = text.split(" ")[::-1]
    kind = taken_kind(waiting)
    lacks = []
    if waiting:
        assert waiting.pop() == "where", text
    while waiting:
        lacks.append((int(waiting.pop()[1:]), waiting.pop()))
    return kind, lacks


def taken_kind(waiting):
    word = waiting.pop()
    if word == "num":
        return NUM
    if word == "fun":
        first = taken_kind(waiting)
        return ("fun", first, taken_kind(waiting))
    if word[0] == "k":
        return var(int(word[1:]))
    assert word in ("rec", "one") and waiting.pop() == "(", word
    fields, tail = [], None
    while (label := waiting.pop()) != ")":
        if label == "|":
            tail = int(waiting.pop()[1:])
        else:
            fields.append((label, taken_kind(waiting)))
    return (word, ("row", tuple(fields), tail))
