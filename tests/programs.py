"""Programs, put down shortly, for the tests of kinds and runs."""

from fieldrows.texts import read

# Defs of which kinds and values of many parts come: of one of p parts twice makes one of 4 + 2p, wrap of 3 + p parts.
SIZES = ("twice fn x with a x with b x empty", "wrap fn x with c x empty")


def program_of(*defs):
    """The program of these defs, written without the word def; where main is not there, it is 0."""
    lines = [f"def {line}" for line in defs]
    if not lines[-1].startswith("def main "):
        lines.append("def main 0")
    return read("\n".join(lines))


def of_parts(many):
    """An expression, by the defs of SIZES, whose kind has so many parts."""
    if many <= 3:
        return ("1", "empty", "fn x 1")[many - 1]
    if many >= 12 and many % 2 == 0:
        return "do twice " + of_parts((many - 4) // 2)
    return "do wrap " + of_parts(many - 3)


def sized_defs(first, second):
    return [*SIZES, f"first {of_parts(first)}", f"second {of_parts(second)}"]


# For each word that can wait: f of 0 is the first, f of any other number the second, in which {} is f of one less.
# All of these are let.
WAITING = {
    "do, the function": ("1", "do if {} fn x + x 1 fn x x 0"),
    "do, what it is handed": ("1", "do fn x x {}"),
    "get": ("with a 1 empty", "with a get a {} empty"),
    "with, the field": ("1", "get a with a {} empty"),
    "with, the record": ("empty", "less a with a 1 {}"),
    "put, the field": ("1", "get a put a {} with a 0 empty"),
    "put, the record": ("with a 1 empty", "put a 2 {}"),
    "less": ("with a 1 empty", "with a 1 less a {}"),
    "tag": ("1", "case tag a {} a x x y 0"),
    "wide": ("tag b 1", "case wide a {} a x x y y"),
    "case": ("tag b 1", "case {} b x tag b + x 1 y tag b 0"),
    "case, its first way": ("1", "case tag a 1 a x {} y 0"),
    "case, its second way": ("1", "case tag b 1 a x 0 y {}"),
    "if": ("1", "if {} 1 0"),
    "if, its first way": ("1", "if 1 {} 0"),
    "if, its second way": ("1", "if 0 1 {}"),
    "+, the first": ("1", "+ {} 1"),
    "+, the second": ("1", "+ 1 {}"),
    "-, the first": ("1", "- {} 1"),
    "-, the second": ("1", "- 1 {}"),
    "*, the first": ("1", "* {} 1"),
    "*, the second": ("1", "* 1 {}"),
    "<, the first": ("1", "< {} 1"),
    "<, the second": ("1", "< 1 {}"),
}


def waiting(word, many):
    first, other = WAITING[word]
    step = other.format("do f - n 1")
    # What do makes here comes with a step of its own.
    deep = many * 2 // 3 if word.startswith("do") else many
    return program_of(f"f fn n if n {step} {first}", f"main do f {deep}")
