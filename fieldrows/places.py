"""The places of an expression: it and all expressions in it."""


def places(E):
    found = []
    waiting = [E]
    while waiting:
        place = waiting.pop()
        found.append(place)
        # Turned round, as the last one that waits is looked at first.
        waiting.extend(inner(place)[::-1])
    return found


# Names and numbers stand in an expression as texts and whole numbers, so its tuples are its expressions.
def inner(expression):
    return [part for part in expression if isinstance(part, tuple)]
