"""Programs, put down shortly, for the tests of kinds and runs."""

from fieldrows.texts import read

# Defs of which kinds and values of many parts come: of one of p parts twice makes one of 4 + 2p, wrap of 3 + p parts.
SIZES = ("twice fn x with a x with b x empty", "wrap fn x with c x empty")


def program_of(*defs):
    """The program of these defs, written without the word def; where main is not there, it is 0."""
    lines = [f"def {line}" for line in defs]
    if not lines[-1].startswith("def main "):
        lines.append("def main 0")
    return read("\n".join(lines))


def of_parts(many):
    """An expression, by the defs of SIZES, whose kind has so many parts."""
    if many <= 3:
        return ("1", "empty", "fn x 1")[many - 1]
    if many >= 12 and many % 2 == 0:
        return "do twice " + of_parts((many - 4) // 2)
    return "do wrap " + of_parts(many - 3)


def sized_defs(first, second):
    return [*SIZES, f"first {of_parts(first)}", f"second {of_parts(second)}"]
