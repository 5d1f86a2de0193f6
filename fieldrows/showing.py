"""Kinds, schemes and values as texts."""


def shown_kind(K):
    words = []
    waiting = [K]
    while waiting:
        part = waiting.pop()
        if isinstance(part, str):
            words.append(part)
        else:
            # Turned round, as the last one that waits is looked at first.
            waiting.extend(kind_written(part)[::-1])
    return " ".join(words)


# The words of a kind, and the kinds straight in it where they stand among them.
def kind_written(kind):
    if kind[0] == "num":
        return ["num"]
    if kind[0] == "var":
        return ["k" + str(kind[1])]
    if kind[0] == "fun":
        return ["fun", kind[1], kind[2]]
    return [kind[0]] + row_written(kind[1])


def row_written(row):
    tail = [] if row[2] is None else ["|", "r" + str(row[2])]
    return ["("] + fields_written(row[1]) + tail + [")"]


def fields_written(fields):
    written = []
    for label, part in fields:
        written.extend([label, part])
    return written


def shown_scheme(scheme):
    words = [shown_kind(scheme[0])]
    if scheme[1]:
        words.append("where")
    for number, label in scheme[1]:
        words.extend(["r" + str(number), label])
    return " ".join(words)


def shown_value(V):
    words = []
    waiting = [V]
    while waiting:
        part = waiting.pop()
        if isinstance(part, str):
            words.append(part)
        else:
            waiting.extend(value_written(part)[::-1])
    return " ".join(words)


def value_written(value):
    if isinstance(value, int):
        return [str(value)]
    if value[0] == "rec":
        return ["rec", "("] + fields_written(value[1]) + [")"]
    if value[0] == "one":
        return ["one", value[1], value[2]]
    return [value[0]]
