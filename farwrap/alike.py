"""Polynomials as functions with wrapped values: which of them are the same, and which have each value once."""

from itertools import zip_longest

from farwrap.errors import InvalidBound
from farwrap.families import total_inside
from farwrap.kinds import check_kind, check_value, wrapped
from farwrap.roots import MOST_COEFFICIENTS, check_polynomial, is_polynomial, root_families, value_at
from farwrap.searches import wanted_at
from farwrap.wholes import factors_of_two, is_sixty_digits


def _check_two(kind, one, other):
    check_kind(kind)
    if not is_polynomial(one):
        raise InvalidBound("one")
    if not is_polynomial(other):
        raise InvalidBound("other")


def _check_range(kind, one, other, first, last):
    _check_two(kind, one, other)
    check_value(kind, first, "first")
    check_value(kind, last, "last")


def _first_unlike(kind, one, other):
    # A difference that is 0 at as many integers in a row as it has coefficients is 0 everywhere: each
    # value is a sum of multiples of these.
    for x in range(max(len(one), len(other))):
        if value_at(kind, one, x) != value_at(kind, other, x):
            return x
    return None


def are_alike(kind, one, other):
    """Return whether the values of two polynomials are the same at all integers."""
    _check_two(kind, one, other)
    return _first_unlike(kind, one, other) is None


def first_unlike(kind, one, other):
    """Return the least integer from 0 on at which the values of two polynomials differ, or None."""
    _check_two(kind, one, other)
    return _first_unlike(kind, one, other)


def _alike_families(kind, one, other):
    """Return the families of the integers at which the values are the same."""
    return root_families([c - d for c, d in zip_longest(one, other, fillvalue=0)], kind.bits)


def _unlike_total(families, first, last):
    return last - first + 1 - total_inside(families, first, last) if first <= last else 0


def unlike_total(kind, one, other, first, last):
    """Return for how many values from first to last the values of two polynomials differ."""
    _check_range(kind, one, other, first, last)
    return _unlike_total(_alike_families(kind, one, other), first, last)


def unlike_at(kind, one, other, first, last, j):
    """Return number j of the values from first to last at which the values of two polynomials differ."""
    _check_range(kind, one, other, first, last)
    families = _alike_families(kind, one, other)
    return wanted_at(lambda start, end: _unlike_total(families, start, end), first, last, j)


def _without_zeros(numbers):
    """Return the list without the zeros at its end."""
    many = len(numbers)
    while many > 0 and numbers[many - 1] == 0:
        many -= 1
    return numbers[:many]


def _divided(polynomial, k):
    """Return the quotient and the remainder of a polynomial and x - k."""
    quotient = []
    rest = 0
    for coefficient in reversed(polynomial):
        quotient.append(rest)
        rest = rest * k + coefficient
    # The first rest is the 0 ahead of all coefficients.
    return (quotient[:0:-1], rest)


def normal_form(kind, polynomial):
    """Return the normal form of a polynomial, which polynomials with the same values share."""
    check_polynomial(kind, polynomial)
    form = []
    quotient = polynomial
    left = kind.bits
    for k in range(len(polynomial)):
        # 2 divides each product of k integers in a row at least as often as that of those from 1 to k.
        left = max(0, left - factors_of_two(max(1, k)))
        quotient, rest = _divided(quotient, k)
        form.append(rest % (1 << left))
    return _without_zeros(form)


def _is_form(value):
    if not (isinstance(value, list) and len(value) <= MOST_COEFFICIENTS):
        return False
    return all([is_sixty_digits(c) for c in value])


def of_form(form):
    """Return the polynomial of a list of factors of 1, x, x * (x - 1) and so on, without zeros at its end."""
    if not _is_form(form):
        raise InvalidBound("form")
    polynomial = []
    for k in range(len(form) - 1, -1, -1):
        # What is found so far is multiplied by x - k.
        polynomial = [upper - k * lower for upper, lower in zip([0] + polynomial, polynomial + [0])]
        polynomial[0] += form[k]
    return _without_zeros(polynomial) or [0]


def _permutes(kind, polynomial):
    if kind.bits == 1:
        # Modulo 2 there are 0 and 1 alone, at which all powers of x are the same.
        return sum(polynomial[1:]) % 2 == 1
    is_linear_odd = sum(polynomial[1:2]) % 2 == 1
    return is_linear_odd and sum(polynomial[2::2]) % 2 == 0 and sum(polynomial[3::2]) % 2 == 0


def permutes(kind, polynomial):
    """Return whether a polynomial has each value of the kind at just one value of the kind."""
    check_polynomial(kind, polynomial)
    return _permutes(kind, polynomial)


def argument_of(kind, polynomial, y):
    """Return the only value of the kind at which a polynomial that permutes has the value y."""
    check_polynomial(kind, polynomial)
    if not _permutes(kind, polynomial):
        raise InvalidBound("polynomial")
    check_value(kind, y, "y")
    families = root_families([polynomial[0] - y] + polynomial[1:], kind.bits)
    return wrapped(kind, families[0][0])
