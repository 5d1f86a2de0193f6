"""Names, numbers and expressions, read from their words and shown as them."""

from fieldrows.errors import NoLine

LONGEST_NAME = 8
MOST_FIGURES = 6
DEEPEST = 30

KEPT_WORDS = (
    "def", "fn", "do", "empty", "get", "with", "put", "less", "tag", "wide", "case", "never", "if",
)

# What stands behind each first word: n for a name, E for an expression.
# Numbers and names have no first word of their own, so "num" and "name" are not here: they are names like others.
FORMS = {
    "fn": "nE",
    "do": "EE",
    "empty": "",
    "get": "nE",
    "with": "nEE",
    "put": "nEE",
    "less": "nE",
    "tag": "nE",
    "wide": "nE",
    "case": "EnnEnE",
    "never": "E",
    "if": "EEE",
    "+": "EE",
    "-": "EE",
    "*": "EE",
    "<": "EE",
}


# Signs are compared, as isalpha and isdigit take letters and figures of all scripts.
def all_between(text, least, greatest):
    return all([least <= sign <= greatest for sign in text])


def is_name(text):
    return 1 <= len(text) <= LONGEST_NAME and all_between(text, "a", "z") and text not in KEPT_WORDS


def is_number(text):
    if not 1 <= len(text) <= MOST_FIGURES or not all_between(text, "0", "9"):
        return False
    return text == "0" or text[0] != "0"


def read_number(text):
    if not is_number(text):
        raise NoLine(f"{text!r} is no number")
    return int(text)


def read_expression(text):
    waiting = text.split(" ")[::-1]
    expression = take_expression(waiting, 0)
    if waiting:
        raise NoLine("words stand behind the expression")
    return expression


# The words still to be read wait with the first of them last, where pop takes it.
def take_word(waiting):
    if not waiting:
        raise NoLine("a word is wanting")
    return waiting.pop()


def take_name(waiting):
    word = take_word(waiting)
    if not is_name(word):
        raise NoLine(f"{word!r} is no name")
    return word


def take_expression(waiting, around):
    # Refused on the way down, so that no text leads deeper into calls than an expression may be.
    if around > DEEPEST:
        raise NoLine("the expression is too deep")
    word = take_word(waiting)
    if word not in FORMS:
        return read_leaf(word)
    taken = [word]
    for part in FORMS[word]:
        if part == "n":
            taken.append(take_name(waiting))
        else:
            taken.append(take_expression(waiting, around + 1))
    return tuple(taken)


def read_leaf(word):
    if is_name(word):
        return ("name", word)
    return ("num", read_number(word))


def shown_expression(E):
    words = []
    waiting = [E]
    while waiting:
        part = waiting.pop()
        if isinstance(part, tuple):
            waiting.extend(written_parts(part)[::-1])
        else:
            words.append(str(part))
    return " ".join(words)


def written_parts(expression):
    if expression[0] in ("num", "name"):
        return expression[1:]
    return expression
