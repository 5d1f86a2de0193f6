"""Kinds and rows: how many parts a kind has, which numbers stand in it, what it is when filled.

A kind may be some thousand deep, so that none is walked by calls within calls, and no two are compared by ==, which
goes as deep as they do.
"""


def parts(K):
    return sum([own_parts(kind) for kind in within(K)])


# A row and its fields are no kinds: they count with the rec or one that has them.
def own_parts(kind):
    if has_row(kind):
        return 2 + len(kind[1][1])
    return 1


def has_row(kind):
    return kind[0] in ("rec", "one")


def straight_in(kind):
    if kind[0] == "fun":
        return [kind[1], kind[2]]
    if has_row(kind):
        return [field[1] for field in kind[1][1]]
    return []


# A kind and all kinds in it, each ahead of those that stand in it, from left to right.
def within(K):
    found = []
    waiting = [K]
    while waiting:
        kind = waiting.pop()
        found.append(kind)
        # Turned round, as the last one that waits is looked at first.
        waiting.extend(straight_in(kind)[::-1])
    return found


def numbers(K):
    found = {}
    waiting = [K]
    while waiting:
        part = waiting.pop()
        if isinstance(part, int):
            found[part] = True
        else:
            # A tail waits as its number, since it stands behind all that is in the fields.
            waiting.extend((straight_in(part) + own_numbers(part))[::-1])
    return list(found)


def own_numbers(kind):
    if kind[0] == "var":
        return [kind[1]]
    if has_row(kind) and kind[1][2] is not None:
        return [kind[1][2]]
    return []


def filled(K, filling):
    return built(within(K), filling)


# Made of the kinds that within tells: from the last to the first, what stands in a kind is made ahead of it.
def built(found, filling):
    made = []
    for kind in found[::-1]:
        # The first one straight in the kind was made last.
        inner = [made.pop() for part in straight_in(kind)]
        made.append(rebuilt(kind, inner, filling))
    return made[0]


def rebuilt(kind, inner, filling):
    if kind[0] == "var":
        return filling.get(kind[1], kind)
    if kind[0] == "fun":
        return ("fun", inner[0], inner[1])
    if has_row(kind):
        return (kind[0], rebuilt_row(kind[1], inner, filling))
    return kind


def rebuilt_row(row, inner, filling):
    fields = [(field[0], kind) for field, kind in zip(row[1], inner)]
    return joined(fields, filling.get(row[2], ("row", (), row[2])))


def joined(fields, row):
    together = sorted(list(fields) + list(row[1]), key=label_of)
    return ("row", tuple(together), row[2])


def label_of(field):
    return field[0]


def without(row, labels):
    return ("row", tuple([field for field in row[1] if field[0] not in labels]), row[2])


# What open rows must lack since they are tails behind fields.
def lacks_within(K):
    found = []
    for kind in within(K):
        if has_row(kind) and kind[1][2] is not None:
            found.extend([(kind[1][2], field[0]) for field in kind[1][1]])
    return found


# Kinds are the same where their words are.
def words_of(K):
    words = []
    for kind in within(K):
        words.extend(own_words(kind))
    return words


def own_words(kind):
    if has_row(kind):
        # With how many fields there are, since labels may be called like any other word.
        return [kind[0], kind[1][2], len(kind[1][1])] + [field[0] for field in kind[1][1]]
    return [kind[0]] + own_numbers(kind)
