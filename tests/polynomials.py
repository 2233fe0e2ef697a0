"""Polynomials for the tests, and their roots found value by value."""

from tests.samples import bounds, values

LONGEST = 10 ** 60 - 1


def exact_value(polynomial, x):
    return sum(coefficient * x ** i for i, coefficient in enumerate(polynomial))


def product(numbers, factor=1):
    """The coefficients of a factor times the product of x less each number."""
    found = [factor]
    for number in numbers:
        found = [before - number * here for before, here in zip([0] + found, found + [0])]
    return found


def all_roots(kind, polynomial):
    """The ascending list of the roots, each value tried by the words of point 21."""
    size = 2 ** kind.parts()[0]
    return [x for x in values(kind) if exact_value(polynomial, x) % size == 0]


def families_of(kind, wanted):
    """The families of a list of values: one for all integers, or else those of both halves, and so on."""
    bits = kind.parts()[0]
    wanted = {x % 2 ** bits for x in wanted}

    def below(first, k):
        own = [x for x in range(first, 2 ** bits, 2 ** k) if x in wanted]
        if not own:
            return []
        if len(own) == 2 ** (bits - k):
            return [(first, k)]
        return below(first, k + 1) + below(first + 2 ** k, k + 1)

    return sorted(below(0, 0))


def family_bound(polynomial):
    """The fact of point 22: the greatest k with an odd coefficient, less the factors of two of all."""
    rest = list(polynomial)
    while any(rest) and all(coefficient % 2 == 0 for coefficient in rest):
        rest = [coefficient // 2 for coefficient in rest]
    return max((k for k, coefficient in enumerate(rest) if coefficient % 2), default=0)


def short_polynomials(size):
    """All of up to three coefficients below a size, some of which are above or below 0."""
    near = range(size)
    return (
        [[c] for c in range(-size, size + 1)] + [[c, d] for c in near for d in near]
        + [[c, d - size, e] for c in near for d in near for e in near]
    )


def long_polynomials(bits):
    """Polynomials of all lengths: products, powers, even ones, trailing zeros, large coefficients."""
    size = 2 ** bits
    found = [[0], [0] * 9, [1], [size], [size // 2], [-size] * 9, [size // 2] * 9, [1] * 9, [LONGEST] * 9]
    found += [[0] * i + [1] for i in range(1, 9)] + [[0] * i + [3, 0, 0] for i in range(1, 7)]
    found += [product([0] * i + [1] * j) for i, j in ((1, 1), (2, 2), (4, 4), (1, 7), (3, 2))]
    found += [product(range(i)) for i in range(1, 9)] + [product(range(-i, i, 2)) for i in (2, 3, 7)]
    found += [product(range(i), factor) for i in (2, 4, 8) for factor in (2, 4, size // 2, size // 4 or 1, -6)]
    found += [product([3] * i + [3 + size // 2] * (8 - i)) for i in (1, 4, 7)]
    found += [product([i, -i, i + 2, i * i]) for i in range(5)] + [product([1, 1, 5, 5, 9, 9, 13])]
    found += [[-c, 0, 1] for c in range(0, size, 3)] + [[c, 0, 0, 0, 1] for c in range(0, size, 5)]
    found += [[-LONGEST, LONGEST, 10 ** 59, -1, 7], [2 ** 130, 2 ** 129, 2 ** 128 + size // 2]]
    return found + mixed_polynomials(40)


def mixed_polynomials(count):
    """Polynomials of 1 to 9 coefficients that look as if drawn by lot, but are always the same."""
    found = []
    n = 12345
    for place in range(count):
        row = []
        for _ in range(1 + place % 9):
            n = (n * 6364136223846793005 + 1442695040888963407) % 2 ** 64
            row.append((n >> 40) - 2 ** 23)
        found.append([coefficient * 2 ** (place % 3) for coefficient in row])
    return found


def residues(kind, families):
    """The values of the kind that families stand for."""
    low, high = bounds(kind)
    return [x for x in range(low, high + 1) if any((x - first) % 2 ** k == 0 for first, k in families)]
