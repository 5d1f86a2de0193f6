"""Programs, read from their text and shown as it."""

from fieldrows.errors import NoLine, NoName, TooMuch
from fieldrows.places import inner, places
from fieldrows.words import is_name, read_expression, shown_expression

MOST_LINES = 12
MOST_PLACES = 80


def read(text):
    lines = text.split("\n")
    if len(lines) > MOST_LINES:
        raise TooMuch("the text has too many lines")
    program = []
    for line in lines:
        program.append(read_def(line, [above[0] for above in program]))
    if program[-1][0] != "main":
        raise NoName("the last def is not called main")
    return program


def read_def(line, above):
    words = line.split(" ", 2)
    if len(words) != 3 or words[0] != "def" or not is_name(words[1]):
        raise NoLine("the line is not the word def, a name and an expression")
    name = words[1]
    expression = read_expression(words[2])
    if len(places(expression)) > MOST_PLACES:
        raise TooMuch("the expression has too many places")
    if name in above:
        raise NoName(f"a def above is called {name}, too")
    refuse_open_names(expression, above + [name])
    return (name, expression)


def refuse_open_names(expression, known):
    waiting = [(expression, known)]
    while waiting:
        scope = waiting.pop()
        refuse_open_name(scope[0], scope[1])
        waiting.extend(scopes_in(scope[0], scope[1]))


def refuse_open_name(expression, known):
    if expression[0] == "name" and expression[1] not in known:
        name = expression[1]
        raise NoName(f"the name {name} is open")


# The expressions straight in an expression, each with the names that are known in it.
def scopes_in(expression, known):
    if expression[0] == "fn":
        return [(expression[2], known + [expression[1]])]
    if expression[0] == "case":
        first = (expression[4], known + [expression[3]])
        second = (expression[6], known + [expression[5]])
        return [(expression[1], known), first, second]
    return [(part, known) for part in inner(expression)]


def shown(program):
    return "\n".join([f"def {name} {words}" for name, words in shown_defs(program)])


def shown_defs(program):
    return [(name, shown_expression(expression)) for name, expression in program]
