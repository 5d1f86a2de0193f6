"""How an expression is reckoned, part by part, and how the steps of it are counted.

What waits is kept in a list and not in calls, as a thousand uses and calls may wait within one another.
"""

END_OF_NUMBERS = 1000000

# Where in its tuple the parts of an expression stand that are reckoned ahead of going on with it.
AHEAD = {
    "do": (1, 2),
    "get": (2,),
    "with": (2, 3),
    "put": (2, 3),
    "less": (2,),
    "tag": (2,),
    "wide": (2,),
    "case": (1,),
    "never": (1,),
    "if": (1,),
    "+": (1, 2),
    "-": (1, 2),
    "*": (1, 2),
    "<": (1, 2),
}


# What goes on behind the parts of an expression is told by the classes under this one, in go_on.
class Reckoner:
    def __init__(self, most):
        self.most = most
        self.steps = 0
        # Tuples (expression, what is known around it, whether its parts are reckoned), the next one last.
        self.waiting = []
        # What came of the parts of those that wait.
        self.come = []
        # A word and a what, where the run ends ahead of its value.
        self.ended = None

    def begin(self, expression, around):
        self.waiting.append((expression, around, False))

    def tell(self, value):
        self.come.append(value)

    # Whether one more step may be made, which is made then.
    def step(self):
        if self.steps >= self.most:
            self.ended = ("tired", None)
            return False
        self.steps += 1
        return True

    def run_on(self):
        while self.waiting and self.ended is None:
            task = self.waiting.pop()
            if task[2]:
                self.go_on(task[0], task[1], self.parts_come(task[0]))
            else:
                self.begin_parts(task[0], task[1])

    def begin_parts(self, expression, around):
        self.waiting.append((expression, around, True))
        for at in reversed(AHEAD.get(expression[0], ())):
            self.begin(expression[at], around)

    def parts_come(self, expression):
        # Turned round, as the last part is the last that came.
        return [self.come.pop() for at in AHEAD.get(expression[0], ())][::-1]


def sort_of(value):
    return "num" if isinstance(value, int) else value[0]


def binding(bound, name, value):
    more = dict(bound)
    more[name] = value
    return more


def worked(word, first, second):
    if word == "+":
        return (first + second) % END_OF_NUMBERS
    if word == "-":
        return (first - second) % END_OF_NUMBERS
    if word == "*":
        return first * second % END_OF_NUMBERS
    return 1 if first < second else 0
