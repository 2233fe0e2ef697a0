"""Steps x -> a * x + c modulo a power of two, kept as tuples (a, c), and many of them done at once."""

from farwrap.errors import InvalidBound
from farwrap.kinds import is_value
from farwrap.wholes import twos_in


def is_generator(kind, value):
    """Return whether an object is a generator of a kind."""
    return isinstance(value, tuple) and len(value) == 2 and is_value(kind, value[0]) and is_value(kind, value[1])


def check_generator(kind, value, argument):
    """Raise the error of an argument that is not a generator of a kind."""
    if not is_generator(kind, value):
        raise InvalidBound(argument)


def moved(step, x, size):
    """Return where a step leads from x, modulo size."""
    a, c = step
    return (a * x + c) % size


def after(one, other, size):
    """Return the step that leads where one step and then the other one do, modulo size."""
    return (one[0] * other[0] % size, moved(other, one[1], size))


def repeated(step, n, size):
    """Return the step that leads where n steps do, modulo size."""
    total = (1, 0)
    while n > 0:
        if n % 2 == 1:
            total = after(total, step, size)
        step = after(step, step, size)
        n //= 2
    return total


def after_many(step, x, n, bits):
    """Return where n steps lead from x, modulo 2 ** bits; n may be below 0 if a is odd."""
    # With an odd a each value comes again after 2 ** bits steps, at the latest. With an even one, the
    # difference of two values is a times as much after each step, so that it is 0 after `bits` steps.
    many = min(n, bits) if step[0] % 2 == 0 else n % (1 << bits)
    return moved(repeated(step, many, 1 << bits), x, 1 << bits)


def steps_to_ring(step, x, bits):
    """Return after how many steps from x the value comes again later, modulo 2 ** bits."""
    if step[0] % 2 == 1:
        return 0
    left = bits - twos_in(x - after_many(step, x, bits, bits), bits)
    # Each step adds the factors of two in a to those of the difference.
    return -(-left // twos_in(step[0], bits))


def ring_length(step, x, bits):
    """Return how many steps lead from x to the same value, modulo 2 ** bits, for an x on a ring."""
    size = 1 << bits
    length = 1
    while moved(step, x, size) != x % size:
        step = after(step, step, size)
        length *= 2
    return length
