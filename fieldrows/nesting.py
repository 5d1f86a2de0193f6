"""Where expressions stand in one another: the numbers of the places straight in a place."""

from fieldrows.places import inner, places


def inner_numbers(expression, number):
    found = []
    behind = number + 1
    for part in inner(expression):
        found.append(behind)
        behind += len(places(part))
    return found
