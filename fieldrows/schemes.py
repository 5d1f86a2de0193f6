"""Schemes: kinds with what their open rows must lack, and the kinds that they stand for."""

from fieldrows.kinds import filled, has_row, lacks_within, numbers, own_numbers, straight_in, within, without, words_of


def named(K, lacks):
    names = {}
    for name, number in enumerate(numbers(K)):
        names[number] = name
    tails = tails_within(K)
    kept = [(names[number], label) for number, label in list(lacks) + lacks_within(K) if number in tails]
    return (filled(K, renaming(names, tails)), sorted(set(kept)))


def tails_within(K):
    tails = {}
    for kind in within(K):
        if has_row(kind):
            tails.update(dict([(number, True) for number in own_numbers(kind)]))
    return tails


def renaming(names, tails):
    filling = {}
    for number in names:
        if number in tails:
            filling[number] = ("row", (), names[number])
        else:
            filling[number] = ("var", names[number])
    return filling


def stands_for(scheme, K):
    lacked = dict([(lack, True) for lack in scheme[1]])
    given = {}
    waiting = [(scheme[0], K)]
    while waiting:
        pair = waiting.pop()
        if not fits(pair[0], pair[1], lacked, given):
            return False
        waiting.extend(inner_pairs(pair[0], pair[1]))
    return True


# Whether a kind of the scheme can be the other kind, whatever stands in them; given keeps what its numbers are then.
def fits(kind, other, lacked, given):
    if kind[0] == "var":
        return given_alike(kind[1], words_of(other), given)
    if kind[0] != other[0]:
        return False
    return not has_row(kind) or row_fits(kind[1], other[1], lacked, given)


def row_fits(row, other, lacked, given):
    labels = dict(other[1])
    if not all([label in labels for label, kind in row[1]]):
        return False
    rest = without(other, dict(row[1]))
    if row[2] is None:
        return not rest[1] and rest[2] is None
    if any([(row[2], label) in lacked for label, kind in rest[1]]):
        return False
    return given_alike(row[2], words_of(("rec", rest)), given)


def given_alike(number, words, given):
    return given.setdefault(number, words) == words


def inner_pairs(kind, other):
    if has_row(kind):
        fields = dict(other[1][1])
        return [(inner, fields[label]) for label, inner in kind[1][1]]
    return list(zip(straight_in(kind), straight_in(other)))
