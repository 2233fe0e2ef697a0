"""Loops and generators for the tests, with their rounds and steps done one by one."""

from tests.samples import bounds, shares, values, wrap

COMPARED = {
    "<": lambda y, z: y < z,
    "<=": lambda y, z: y <= z,
    "==": lambda y, z: y == z,
    "!=": lambda y, z: y != z,
    ">=": lambda y, z: y >= z,
    ">": lambda y, z: y > z,
}


def run(kind, loop, most):
    """The values of x in at most so many rounds, and the value behind the last one, None if it would go on."""
    x, word, b, c = loop
    found = []
    while COMPARED[word](x, b):
        if len(found) == most:
            return found, None
        found.append(x)
        x = wrap(kind, x + c)
    return found, x


def all_loops(kind):
    return [(a, word, b, c) for a in values(kind) for word in COMPARED for b in values(kind) for c in values(kind)]


def some_loops(kind, count):
    """Loops with the least and greatest values, those between, and small and large additions up and down."""
    low, high = bounds(kind)
    near = sorted({low, low + 1, -1 % (high + 1), 0, min(5, high), high // 2, high - 1, high})
    added = sorted({low, max(low, -3), max(low, -1), 0, 1, min(3, high), high // 3, high // 2 + 1, high - 1, high})
    found = [(a, word, b, c) for a in near for word in COMPARED for b in near for c in added]
    return shares(found, count)


def path(kind, generator, x, count):
    """The values after 0, 1, 2 and so on, so many steps at all."""
    found = []
    for _ in range(count):
        found.append(x)
        x = wrap(kind, generator[0] * x + generator[1])
    return found


def lead_and_length(found):
    """The tuple of point 35, for a path of more than twice as many values as the kind has."""
    again = next(n for n, x in enumerate(found) if x in found[:n])
    lead = found.index(found[again])
    return lead, again - lead


def all_generators(kind):
    return [(a, c) for a in values(kind) for c in values(kind)]


def some_generators(kind, count):
    """Generators with multipliers near to powers of two, even and odd, and all sorts of addends."""
    low, high = bounds(kind)
    bits = kind.parts()[0]
    near = {0, 1, -1, 2, 3, 5, 6, 7, -3, 2 ** bits // 3, high, low}
    near |= {2 ** k + d for k in range(bits) for d in (-1, 0, 1)}
    factors = sorted({wrap(kind, a) for a in near})
    addends = sorted({wrap(kind, c) for c in (0, 1, 2, 3, 4, -1, 2 ** (bits - 1), 2 ** bits // 3, 6)})
    return shares([(a, c) for a in factors for c in addends], count)


def numbers_of(found, length, is_wanted):
    """The tuple of point 39 for the numbers at which a path has a wanted value, None if there are none.

    The path has two turns and more of a ring of this length at its end.
    """
    numbers = [n for n, x in enumerate(found[:len(found) - length]) if is_wanted(x)]
    if not numbers:
        return None
    return numbers[0], numbers[1] - numbers[0] if len(numbers) > 1 else 0
