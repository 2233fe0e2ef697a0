"""How many steps of a generator lead from one value to another one."""

from farwrap.errors import InvalidBound
from farwrap.kinds import check_kind, check_value, is_value
from farwrap.steps import after, check_generator, moved, ring_length
from farwrap.wholes import is_count, twos_in

MOST_VALUES = 20


def _steps_of_square(step, x, y, bits):
    """Return the least number of steps from x to y modulo 2 ** bits, None if no steps do; a is an odd square."""
    size = 1 << bits
    power = twos_in(moved(step, x, size) - x, bits)
    if twos_in(y - x, bits) < power:
        return None
    n = 0
    # With an odd square, 2 ** i steps change bit number power + i, and none below it, wherever they begin.
    for i in range(bits - power):
        if (y - x) >> (power + i) & 1 == 1:
            x = moved(step, x, size)
            n += 1 << i
        step = after(step, step, size)
    return n


def _steps_of_odd(step, x, y, bits):
    size = 1 << bits
    twice = after(step, step, size)
    # The even numbers of steps are those of two steps at once, the odd ones begin with a single step.
    halves = [_steps_of_square(twice, start, y, bits) for start in (x, moved(step, x, size))]
    found = [2 * half + i for i, half in enumerate(halves) if half is not None]
    return (min(found), ring_length(step, x, bits)) if found else None


def _steps_of_even(step, x, y, bits):
    size = 1 << bits
    x, y = x % size, y % size
    # After as many steps as there are bits, the value stays the same.
    for n in range(bits + 1):
        if x == y:
            return (n, 1 if moved(step, y, size) == y else 0)
        x = moved(step, x, size)
    return None


def _all_steps(step, x, y, bits):
    """Return the tuple of `all_steps` for values that are equal modulo 2 ** bits."""
    return _steps_of_even(step, x, y, bits) if step[0] % 2 == 0 else _steps_of_odd(step, x, y, bits)


def _check_start(kind, generator, x):
    check_kind(kind)
    check_generator(kind, generator, "generator")
    check_value(kind, x, "x")


def _check(kind, generator, x, y):
    _check_start(kind, generator, x)
    check_value(kind, y, "y")


def steps_between(kind, generator, x, y):
    """Return the least number of steps that lead from x to y, None if no steps do."""
    _check(kind, generator, x, y)
    found = _all_steps(generator, x, y, kind.bits)
    return None if found is None else found[0]


def all_steps(kind, generator, x, y):
    """Return the least number of steps from x to y and how many come between two of all numbers, or None.

    The latter is 0 if there is one number alone.
    """
    _check(kind, generator, x, y)
    return _all_steps(generator, x, y, kind.bits)


def low_steps(kind, generator, x, y, bits):
    """Return what `all_steps` does, for steps to all values that are equal to y modulo 2 ** bits."""
    _check(kind, generator, x, y)
    if not (is_count(bits) and bits <= kind.bits):
        raise InvalidBound("bits")
    return _all_steps(generator, x, y, bits)


def _is_choice(kind, value):
    if not (isinstance(value, list) and 1 <= len(value) <= MOST_VALUES):
        return False
    return all([is_value(kind, y) for y in value])


def first_met(kind, generator, x, some):
    """Return the least number of steps that lead from x to a value of a list, and this value, or None."""
    _check_start(kind, generator, x)
    if not _is_choice(kind, some):
        raise InvalidBound("some")
    met = [(_all_steps(generator, x, y, kind.bits), y) for y in some]
    reached = [(steps[0], y) for steps, y in met if steps is not None]
    return min(reached) if reached else None
