"""Wants of kinds that shall be the same, and of rows that shall lack labels: the widest filling that meets them."""

from fieldrows.errors import NoKind
from fieldrows.kinds import built, has_row, joined, lacks_within, numbers, own_parts, straight_in, without

MOST_PARTS = 200


def solved(pairs, lacks):
    found = numbers_wanted(pairs, lacks)
    filler = Filler(max(found, default=-1) + 1)
    # All that rows shall lack is known ahead of the first filling, so that each filling is held against all of it.
    for row, label in lacks_wanted(pairs, lacks):
        filler.lack(row, label)
    for left, right in pairs:
        filler.make_same(left, right)
    # Not until all is filled, as a later pair may fill the kinds of an earlier one. What stands within what it shall be
    # is refused here, too: it comes to a kind without an end.
    for left, right in pairs:
        filler.whole(left)
    return (filler.filling_of(found), filler.lacks_left())


# The rows that shall lack labels stand here as recs.
def kinds_wanted(pairs, lacks):
    found = [("rec", row) for row, label in lacks]
    for left, right in pairs:
        found.extend([left, right])
    return found


def numbers_wanted(pairs, lacks):
    found = {}
    for kind in kinds_wanted(pairs, lacks):
        found.update(dict([(number, True) for number in numbers(kind)]))
    return list(found)


def lacks_wanted(pairs, lacks):
    found = list(lacks)
    for kind in kinds_wanted(pairs, lacks):
        found.extend([(("row", (), number), label) for number, label in lacks_within(kind)])
    return found


class Filler:
    def __init__(self, free):
        # A kind or a row for each number that is filled so far; numbers in it may be filled in turn.
        self.given = {}
        # For each open row a dict of the labels that it must lack.
        self.lacked = {}
        # The least number that stands nowhere yet.
        self.free = free

    def lack(self, row, label):
        if label in dict(row[1]):
            raise NoKind(f"a row has the field {label} that it shall lack")
        if row[2] is not None:
            self.must_lack(row[2], {label: True})

    def must_lack(self, number, labels):
        self.lacked.setdefault(number, {}).update(labels)

    # What a kind is so far: not open where it is filled, its row with all fields. What stands in it is left as it is.
    def reached(self, kind):
        passed = []
        while kind[0] == "var" and kind[1] in self.given:
            passed.append(kind[1])
            kind = self.given[kind[1]]
        # Each number passed is told the last one at once, so that no long way is gone twice.
        for number in passed:
            self.given[number] = kind
        if has_row(kind):
            return (kind[0], self.reached_row(kind[1]))
        return kind

    def reached_row(self, row):
        passed = []
        tail = row[2]
        while tail in self.given:
            passed.append(tail)
            tail = self.given[tail][2]
        rest = ("row", (), tail)
        for number in reversed(passed):
            rest = joined(self.given[number][1], rest)
            self.given[number] = rest
        return joined(row[1], rest)

    # The kind and all kinds in it, as within tells them, as they have come to be so far.
    def whole(self, kind):
        found = []
        many = 0
        waiting = [kind]
        while waiting:
            part = self.reached(waiting.pop())
            many += own_parts(part)
            # Here, and not behind the walk, which may have no end.
            if many > MOST_PARTS:
                raise NoKind("a kind comes to too many parts")
            found.append(part)
            waiting.extend(straight_in(part)[::-1])
        return found

    def make_same(self, left, right):
        many = 0
        waiting = [(left, right)]
        while waiting:
            pair = waiting.pop()
            # Each of these pairs is another part of the kind that left and right come to, which may have no end.
            many += 1
            if many > MOST_PARTS:
                raise NoKind("a kind comes to too many parts")
            waiting.extend(self.matched(self.reached(pair[0]), self.reached(pair[1])))

    # Tells the pairs that shall be the same so that these two are.
    def matched(self, one, other):
        if one[0] == "var" or other[0] == "var":
            self.match_open(one, other)
            return []
        if one[0] != other[0]:
            raise NoKind("two kinds are of unlike sorts")
        if has_row(one):
            return self.matched_rows(one[1], other[1])
        return list(zip(straight_in(one), straight_in(other)))

    def match_open(self, one, other):
        if one[0] != "var":
            self.given[other[1]] = one
        elif other[0] != "var":
            self.given[one[1]] = other
        elif one[1] != other[1]:
            self.given[max(one[1], other[1])] = ("var", min(one[1], other[1]))

    def matched_rows(self, one, other):
        fields = dict(one[1])
        others = dict(other[1])
        self.match_rests(without(one, others), without(other, fields))
        return [(fields[label], others[label]) for label in fields if label in others]

    # These two rows share no label, so each tail takes the other row's fields, and one rest is behind both.
    def match_rests(self, one, other):
        rest = self.rest_behind(one, other)
        self.fill_tail(one[2], other[1], rest)
        self.fill_tail(other[2], one[1], rest)

    def rest_behind(self, one, other):
        if one[2] == other[2]:
            return one[2]
        if one[2] is None or other[2] is None:
            return None
        if one[1] and other[1]:
            return self.free_number()
        if one[1]:
            return one[2]
        if other[1]:
            return other[2]
        # The lesser one, so that none that is made anew is kept where one of the wants can be.
        return min(one[2], other[2])

    def free_number(self):
        self.free += 1
        return self.free - 1

    def fill_tail(self, number, fields, rest):
        if number == rest:
            if fields:
                raise NoKind("a row has a field that another one cannot have")
            return
        lacked = self.lacked.get(number, {})
        for label, kind in fields:
            if label in lacked:
                raise NoKind(f"a row comes to the field {label} that it shall lack")
        self.given[number] = ("row", fields, rest)
        # The rest lacks the labels of these fields already, as it or a tail that it is the rest of stood behind them.
        if rest is not None:
            self.must_lack(rest, lacked)

    def filling_of(self, found):
        filling = {}
        for number in found:
            if number in self.given:
                filling[number] = self.filled_in(number)
        return filling

    def filled_in(self, number):
        if self.given[number][0] == "row":
            return built(self.whole(("rec", ("row", (), number))), {})[1]
        return built(self.whole(("var", number)), {})

    def lacks_left(self):
        left = []
        for number in self.lacked:
            if number not in self.given:
                left.extend([(number, label) for label in self.lacked[number]])
        return sorted(left)
