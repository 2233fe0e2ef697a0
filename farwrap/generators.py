"""Generators x -> a * x + c: their values after many steps, and the rings to which these come."""

from math import gcd

from farwrap.errors import InvalidBound
from farwrap.families import joined
from farwrap.kinds import check_kind, check_value, wrapped
from farwrap.steps import after, after_many, check_generator, moved, ring_length, steps_to_ring
from farwrap.wholes import check_integer, twos_in


def _check(kind, generator):
    check_kind(kind)
    check_generator(kind, generator, "generator")


def _check_start(kind, generator, x):
    _check(kind, generator)
    check_value(kind, x, "x")


def stepped(kind, generator, x, n):
    """Return the value after n steps from x; n below 0 leads back, which needs an odd a."""
    _check_start(kind, generator, x)
    check_integer(n, "n")
    if n < 0 and generator[0] % 2 == 0:
        raise InvalidBound("n")
    return wrapped(kind, after_many(generator, x, n, kind.bits))


def ring_of(kind, generator, x):
    """Return after how many steps from x a value comes that comes again later, and after how many more it does."""
    _check_start(kind, generator, x)
    lead = steps_to_ring(generator, x, kind.bits)
    return (lead, ring_length(generator, after_many(generator, x, lead, kind.bits), kind.bits))


def _unmoved_total(step, size):
    """Return from how many values a step leads to the same one, modulo size."""
    a, c = step
    shared = gcd(a - 1, size)
    return shared if c % shared == 0 else 0


def ring_lengths(kind, generator):
    """Return the ascending list of the lengths of all rings, each with the number of these."""
    _check(kind, generator)
    size = 1 << kind.bits
    step, length, before = generator, 1, 0
    found = []
    # All lengths are powers of two. So many steps lead to the same value on rings of this length, and on
    # all shorter ones.
    for _ in range(kind.bits + 1):
        unmoved = _unmoved_total(step, size)
        if unmoved > before:
            found.append((length, (unmoved - before) // length))
        step, length, before = after(step, step, size), 2 * length, unmoved
    return found


def ring_values(kind, generator, x):
    """Return the families of the values of the ring to which x comes."""
    _check_start(kind, generator, x)
    bits = kind.bits
    size = 1 << bits
    start = after_many(generator, x, steps_to_ring(generator, x, bits), bits)
    other = moved(generator, start, size)
    # Two steps at once multiply by a square. With an odd square, they come to all values that are equal
    # modulo the power of two in what they add at first. Theirs are the even steps, those from `other` the rest.
    power = twos_in(moved(generator, other, size) - start, bits)
    apart = 1 << power
    return joined(sorted({(start % apart, power), (other % apart, power)}), bits)
