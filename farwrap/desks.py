"""Desks: variables of several kinds, and calls that change them, which can be taken back and done again."""

from farwrap.errors import InvalidBound, InvalidCall, LimitExceeded
from farwrap.kinds import Kind, check_row, is_value, operate, overflows, wrapped
from farwrap.operations import OPERATIONS, OVERFLOWING
from farwrap.steps import moved, repeated
from farwrap.wholes import is_count, is_sixty_digits

MOST_CALLS = 1000


def _are_variables(numbers, held):
    """Return whether all objects of a tuple are numbers of variables."""
    return all([is_count(number) and number < len(held) for number in numbers])


def _put(call, kinds, held):
    if not (len(call) == 3 and is_sixty_digits(call[2])):
        raise InvalidCall(call)
    kind, n = kinds[call[1]], call[2]
    return (kind, wrapped(kind, n), not is_value(kind, n))


def _operated(call, kinds, held):
    if not (len(call) == 4 and _are_variables(call[2:], held)):
        raise InvalidCall(call)
    name, kind = call[0], kinds[call[1]]
    x, y = wrapped(kind, held[call[2]]), wrapped(kind, held[call[3]])
    try:
        worth = operate(kind, name, x, y)
    except InvalidBound:
        raise InvalidCall(call) from None
    return (kind, worth, name in OVERFLOWING and overflows(kind, name, x, y))


def _stepped(call, kinds, held):
    if not (len(call) == 5 and _are_variables(call[2:4], held) and is_sixty_digits(call[4]) and call[4] >= 0):
        raise InvalidCall(call)
    _, at, a, b, n = call
    kind, step = kinds[at], (held[a], held[b])
    size = 1 << kind.bits
    worth = wrapped(kind, moved(repeated(step, n, size), held[at], size))
    return (kind, worth, n > 0 and not is_value(kind, step[0] * held[at] + step[1]))


def _recast(call, kinds, held):
    if not (len(call) == 3 and isinstance(call[2], Kind)):
        raise InvalidCall(call)
    kind, x = call[2], held[call[1]]
    return (kind, wrapped(kind, x), not is_value(kind, x))


def _begins_as_call(value, held):
    """Return whether an object is a tuple of a string, the number of a variable, and more."""
    if not (isinstance(value, tuple) and len(value) >= 3):
        return False
    return isinstance(value[0], str) and _are_variables(value[1:2], held)


def _outcome(call, kinds, held):
    """Return what becomes of the variable that a call changes, as a tuple (kind, worth, whether it wraps).

    Raises the error of an object that is not a call for variables of these kinds that hold this.
    """
    if not _begins_as_call(call, held):
        raise InvalidCall(call)
    word = call[0]
    if word == "put":
        return _put(call, kinds, held)
    if word == "steps":
        return _stepped(call, kinds, held)
    if word == "kind":
        return _recast(call, kinds, held)
    if word in OPERATIONS:
        return _operated(call, kinds, held)
    raise InvalidCall(call)


class Done:
    """A call that has been done: whether it wrapped, and the kinds and what the variables held behind it."""

    def __init__(self, call, has_wrapped, kinds, held):
        self.call = call
        self.has_wrapped = has_wrapped
        self.kinds = kinds
        self.held = held


class Desk:
    """Variables with what they hold, and the calls that led to it."""

    def __init__(self, kinds):
        check_row(kinds, "kinds")
        # The desk as it was ahead of all calls stands first, as if a call had led to it.
        self.states = [Done((), False, list(kinds), [0] * len(kinds))]
        self.undone = []

    def __eq__(self, other):
        return isinstance(other, Desk) and self.now() == other.now()

    def now(self):
        """Return a tuple of two lists: the kinds of the variables, and what they hold."""
        return self.before(0)

    def do(self, call):
        """Do a call, and return what the variable that it changes holds afterwards."""
        last = self.states[-1]
        kind, worth, has_wrapped = _outcome(call, last.kinds, last.held)
        if len(self.states) > MOST_CALLS:
            raise LimitExceeded(MOST_CALLS)
        at = call[1]
        kinds, held = list(last.kinds), list(last.held)
        kinds[at], held[at] = kind, worth
        self.states.append(Done(call, has_wrapped, kinds, held))
        self.undone = []
        return worth

    def undo(self, count):
        """Take back the last `count` calls."""
        _check_count(count, len(self.states) - 1)
        for _ in range(count):
            self.undone.append(self.states.pop())

    def redo(self, count):
        """Do calls again that were taken back, the last one that was taken back first."""
        _check_count(count, len(self.undone))
        for _ in range(count):
            self.states.append(self.undone.pop())

    def before(self, count):
        """Return what `now` told ahead of the last `count` calls."""
        _check_count(count, len(self.states) - 1)
        state = self.states[len(self.states) - 1 - count]
        return (list(state.kinds), list(state.held))

    def log(self):
        """Return the list of the calls that have been done."""
        return [state.call for state in self.states[1:]]

    def waiting(self):
        """Return the list of the calls that can be done again, in the order in which `redo` does them."""
        return [state.call for state in reversed(self.undone)]

    def wraps(self):
        """Return the ascending list of the numbers of the calls whose exact result did not fit into the kind."""
        return [number for number, state in enumerate(self.states[1:]) if state.has_wrapped]


def _check_count(count, most):
    if not (is_count(count) and count <= most):
        raise InvalidBound("count")


def replay(kinds, calls):
    """Return a desk in which the calls of a list have been done."""
    desk = Desk(kinds)
    if not (isinstance(calls, list) and len(calls) <= MOST_CALLS):
        raise InvalidBound("calls")
    for call in calls:
        desk.do(call)
    return desk
