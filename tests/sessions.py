"""Calls of desks for the tests, and what they do, by the words of the document."""

from farwrap.kinds import Kind
from tests.samples import bounds, wrap

OPERATIONS = ("add", "subtract", "multiply", "divide", "remainder", "and", "or", "xor", "left", "right")
FEW_KINDS = [Kind(bits, is_signed) for bits in (1, 2, 3, 8, 16, 64, 128) for is_signed in (False, True)]


class Draw:
    """Numbers that look as if drawn by lot, but are always the same."""

    def __init__(self, seed):
        self.n = seed

    def below(self, most):
        number = 0
        for _ in range(4):
            self.n = (self.n * 6364136223846793005 + 1442695040888963407) % 2 ** 64
            number = number * 2 ** 32 + self.n // 2 ** 32
        return number % most

    def one_of(self, row):
        return row[self.below(len(row))]

    def call(self, many):
        """A call for so many variables, which may be one of a division by 0 or too wide a shift."""
        at, a, b = self.below(many), self.below(many), self.below(many)
        word = self.one_of(("put", "put", "name", "name", "name", "steps", "kind"))
        if word == "put":
            return "put", at, self.one_of((0, 1, -1, 5, 127, 128, 300, 2 ** 64, self.below(10 ** 60), -self.below(10 ** 60)))
        if word == "steps":
            return "steps", at, a, b, self.one_of((0, 1, 2, 5, 20, self.below(60)))
        if word == "kind":
            return "kind", at, self.one_of(FEW_KINDS)
        return self.one_of(OPERATIONS), at, a, b


def exact(name, x, y, bits):
    """The result of an operation, not wrapped, None where there is none."""
    if name in ("divide", "remainder"):
        if y == 0:
            return None
        quotient = abs(x) // abs(y) * (1 if (x < 0) == (y < 0) else -1)
        return quotient if name == "divide" else x - y * quotient
    if name in ("left", "right"):
        if not 0 <= y < bits:
            return None
        return x * 2 ** y if name == "left" else x // 2 ** y
    return {
        "add": x + y, "subtract": x - y, "multiply": x * y, "and": x & y, "or": x | y, "xor": x ^ y,
    }[name]


def fits(kind, n):
    low, high = bounds(kind)
    return low <= n <= high


def done(kinds, held, call):
    """The kinds and what is held behind a call, and whether it wraps; None if it is no call."""
    word, at = call[:2]
    kind, x = kinds[at], held[at]
    wraps = False
    if word == "put":
        worth, wraps = call[2], not fits(kind, call[2])
    elif word == "kind":
        kind = call[2]
        worth, wraps = x, not fits(kind, x)
    elif word == "steps":
        a, b = held[call[2]], held[call[3]]
        wraps = call[4] > 0 and not fits(kind, a * x + b)
        worth = x
        for _ in range(call[4]):
            worth = wrap(kind, a * worth + b)
    else:
        one, other = wrap(kind, held[call[2]]), wrap(kind, held[call[3]])
        worth = exact(word, one, other, kind.parts()[0])
        if worth is None:
            return None
        wraps = word in ("add", "subtract", "multiply", "divide", "left") and not fits(kind, worth)
    kinds, held = list(kinds), list(held)
    kinds[at], held[at] = kind, wrap(kind, worth)
    return kinds, held, wraps


class Model:
    """What a desk is to tell: a list of all states, with the calls that led to them, and those taken back."""

    def __init__(self, kinds):
        self.states = [(list(kinds), [0] * len(kinds), False)]
        self.calls = []
        self.later = []

    def do(self, call):
        """Do a call, and return what the variable holds, None if it is no call."""
        found = done(*self.states[-1][:2], call)
        if found is None:
            return None
        self.states.append(found)
        self.calls.append(call)
        self.later = []
        return found[1][call[1]]

    def undo(self, count):
        for _ in range(count):
            self.later.append((self.states.pop(), self.calls.pop()))

    def redo(self, count):
        for _ in range(count):
            state, call = self.later.pop()
            self.states.append(state)
            self.calls.append(call)

    def now(self, count=0):
        kinds, held, _ = self.states[len(self.states) - 1 - count]
        return kinds, held

    def wraps(self):
        return [number for number, state in enumerate(self.states[1:]) if state[2]]
