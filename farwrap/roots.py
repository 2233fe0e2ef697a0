"""Polynomials with wrapped values, and all of their roots."""

from farwrap.errors import InvalidBound
from farwrap.families import joined, size_inside, total_size
from farwrap.kinds import check_kind, wrapped
from farwrap.searches import least_passing
from farwrap.wholes import check_integer, factors_of_two, is_integer, is_sixty_digits, twos_in

MOST_COEFFICIENTS = 9


def is_polynomial(value):
    """Return whether an object is a polynomial."""
    if not (isinstance(value, list) and 1 <= len(value) <= MOST_COEFFICIENTS):
        return False
    return all([is_sixty_digits(coefficient) for coefficient in value])


def check_polynomial(kind, polynomial):
    """Raise the error of an argument "kind" that is not a kind, or "polynomial" that is not a polynomial."""
    check_kind(kind)
    if not is_polynomial(polynomial):
        raise InvalidBound("polynomial")


def _value(polynomial, x, size):
    """Return the value at x modulo size."""
    total = 0
    for coefficient in reversed(polynomial):
        total = (total * x + coefficient) % size
    return total


def value_at(kind, polynomial, x):
    """Return the value of a polynomial at an integer x, wrapped."""
    check_polynomial(kind, polynomial)
    check_integer(x, "x")
    return wrapped(kind, _value(polynomial, x, 1 << kind.bits))


def _one_behind(polynomial):
    """Return the polynomial that has at each t the value of this one at t + 1."""
    moved = list(polynomial)
    for done in range(len(moved) - 1):
        for i in range(len(moved) - 2, done - 1, -1):
            moved[i] += moved[i + 1]
    return moved


def _doubled(polynomial):
    """Return the polynomial that has at each t the value of this one at 2 * t."""
    return [coefficient << i for i, coefficient in enumerate(polynomial)]


def _halves(node):
    """Return the nodes below a node at some of whose t the polynomial is not divided by 2 ** left."""
    first, k, polynomial, left = node
    shared = min([factors_of_two(coefficient) for coefficient in polynomial if coefficient != 0])
    reduced = [coefficient >> shared for coefficient in polynomial]
    halves = []
    # No value that is odd, less the shared factors of two, leads on to a root.
    if reduced[0] % 2 == 0:
        halves.append((first, k + 1, _doubled(reduced), left - shared))
    if sum(reduced) % 2 == 0:
        halves.append((first + (1 << k), k + 1, _doubled(_one_behind(reduced)), left - shared))
    return halves


def root_families(polynomial, bits):
    """Return the families of the integers at which 2 ** bits divides the value, each integer in just one.

    The list is ascending, and no two of its families make up a single one.
    """
    # A node (first, k, polynomial, left) asks at which t, for x = first + t * 2 ** k, 2 ** left
    # divides the polynomial. There are few nodes: without shared factors of two and modulo 2, the
    # degrees of both halves are at most the multiplicities of the roots 0 and 1 above them, which
    # add up to at most the degree there. And all coefficients of a half are even, so that each k
    # has less left to divide than the one before, and none exceeds bits.
    nodes = [(0, 0, polynomial, bits)]
    found = []
    while nodes:
        below = []
        for first, k, coefficients, left in nodes:
            rest = [coefficient % (1 << left) for coefficient in coefficients]
            if any(rest):
                below.extend(_halves((first, k, rest, left)))
            else:
                found.append((first, k))
        nodes = below
    return joined(found, bits)


def roots(kind, polynomial):
    """Return the families of the roots of a polynomial."""
    check_polynomial(kind, polynomial)
    return root_families(polynomial, kind.bits)


def root_total(kind, polynomial):
    """Return how many roots a polynomial has."""
    return total_size(roots(kind, polynomial), kind.bits)


def lift(kind, polynomial, first, k):
    """Return how many roots are equal to first, and how many to first + 2 ** k, modulo 2 ** (k + 1)."""
    check_polynomial(kind, polynomial)
    bits = kind.bits
    if not (is_integer(k) and 0 <= k <= bits):
        raise InvalidBound("k")
    if not (is_integer(first) and 0 <= first < (1 << k)):
        raise InvalidBound("first")
    families = root_families(polynomial, bits)
    if k == bits:
        return (size_inside(families, (first, k), bits), 0)
    return (
        size_inside(families, (first, k + 1), bits),
        size_inside(families, (first + (1 << k), k + 1), bits),
    )


def least_twos(kind, polynomial):
    """Return how often 2 divides all values of a polynomial, the number of bits at most."""
    check_polynomial(kind, polynomial)
    size = 1 << kind.bits
    # Each value is a sum of multiples of the first ones, as many as there are coefficients.
    return min([twos_in(_value(polynomial, x, size), kind.bits) for x in range(len(polynomial))])


def most_twos(kind, polynomial):
    """Return how often 2 divides a value of a polynomial at most, and the least x from 0 on of such a value."""
    check_polynomial(kind, polynomial)
    bits = kind.bits
    # Where 2 divides no value so often, it divides none more often either.
    over = least_passing(lambda many: many > bits or not root_families(polynomial, many), 1, bits + 1)
    families = root_families(polynomial, over - 1)
    return (over - 1, families[0][0])
