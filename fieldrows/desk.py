"""The desk: the answer of a text, as a text."""

from fieldrows.finding import clash, schemes
from fieldrows.plain import run
from fieldrows.showing import shown_scheme, shown_value
from fieldrows.texts import read


def answered(text, most):
    program = read(text)
    found = clash(program)
    if found is not None:
        return " ".join(["clash", found[0]] + [str(place) for place in found[1]])
    lines = [" ".join([told[0], "is", shown_scheme(scheme)]) for told, scheme in zip(program, schemes(program))]
    return "\n".join(lines + [run_shown(run(program, most))])


def run_shown(told):
    if told[0] == "tired":
        return " ".join(["tired", str(told[1])])
    return " ".join(["value", str(told[1]), shown_value(told[2])])
