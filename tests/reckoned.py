"""A run, told once more for the tests by calls within calls: it serves for few steps."""

FN = "function"


class Tired(Exception):
    pass


class Stuck(Exception):
    pass


class Naive:
    def __init__(self, program, most):
        self.defs = dict(program)
        self.most = most
        self.steps = 0

    def run(self):
        try:
            value = self.come("main", self.defs["main"], 0, {})
        except Tired:
            return ("tired", self.steps, None)
        except Stuck as stuck:
            return ("stuck", self.steps, stuck.args[0])
        return ("value", self.steps, told(value) if count(value) <= 200 else ("deep",))

    def step(self):
        if self.steps == self.most:
            raise Tired
        self.steps += 1

    def come(self, name, E, place, bound):
        """What comes of E, which is place number place in the def so called."""
        def of(at, more=()):
            ahead = [part for part in E[:at] if isinstance(part, tuple)]
            return self.come(name, E[at], place + 1 + sum(map(size, ahead)), {**bound, **dict(more)})

        def want(right):
            if not right:
                raise Stuck((name, place))

        word = E[0]
        if word == "num":
            return E[1]
        if word == "empty":
            return {}
        if word == "fn":
            return (FN, name, E, place, bound)
        if word == "name":
            if E[1] in bound:
                return bound[E[1]]
            self.step()
            return self.come(E[1], self.defs[E[1]], 0, {})
        if word == "do":
            function, handed = of(1), of(2)
            want(isinstance(function, tuple) and function[0] is FN)
            self.step()
            _, home, fn, number, kept = function
            return self.come(home, fn[2], number + 1, {**kept, fn[1]: handed})
        if word in ("get", "less"):
            record = of(2)
            want(isinstance(record, dict) and E[1] in record)
            return record[E[1]] if word == "get" else {label: record[label] for label in record if label != E[1]}
        if word in ("with", "put"):
            field, record = of(2), of(3)
            want(isinstance(record, dict) and (E[1] in record) == (word == "put"))
            return {**record, E[1]: field}
        if word == "tag":
            return [E[1], of(2)]
        if word == "wide":
            choice = of(2)
            want(isinstance(choice, list) and choice[0] != E[1])
            return choice
        if word == "case":
            choice = of(1)
            want(isinstance(choice, list))
            return of(4, {E[3]: choice[1]}) if choice[0] == E[2] else of(6, {E[5]: choice})
        if word == "never":
            of(1)
            want(False)
        if word == "if":
            first = of(1)
            want(isinstance(first, int))
            return of(2) if first else of(3)
        first, second = of(1), of(2)
        want(isinstance(first, int) and isinstance(second, int))
        if word == "<":
            return int(first < second)
        return {"+": first + second, "-": first - second, "*": first * second}[word] % 1000000


def size(E):
    return 1 + sum(size(part) for part in E if isinstance(part, tuple))


def count(value, room=200):
    """How many parts a value has, or more than 200."""
    many = 1
    inside = value.values() if isinstance(value, dict) else value[1:] if isinstance(value, list) else ()
    for part in inside:
        if many > room:
            break
        many += count(part, room - many)
    return many


def told(value):
    if isinstance(value, dict):
        return ("rec", tuple((label, told(value[label])) for label in sorted(value)))
    if isinstance(value, list):
        return ("one", value[0], told(value[1]))
    return ("fn",) if isinstance(value, tuple) else value
