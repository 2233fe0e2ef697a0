"""Roots of polynomials in ranges and in order, and those that several polynomials have in common."""

from farwrap.errors import InvalidBound
from farwrap.families import common, contains, family_size, total_inside
from farwrap.kinds import check_kind, check_value, greatest, least
from farwrap.roots import check_polynomial, is_polynomial, root_families
from farwrap.searches import first_wanted, last_wanted, wanted_at

MOST_POLYNOMIALS = 8


def roots_within(kind, polynomial, first, last):
    """Return how many roots are from first to last."""
    check_polynomial(kind, polynomial)
    check_value(kind, first, "first")
    check_value(kind, last, "last")
    if last < first:
        return 0
    return total_inside(root_families(polynomial, kind.bits), first, last)


def root_at(kind, polynomial, j):
    """Return root number j of all in ascending order."""
    check_polynomial(kind, polynomial)
    families = root_families(polynomial, kind.bits)
    return wanted_at(lambda start, end: total_inside(families, start, end), least(kind), greatest(kind), j)


def root_above(kind, polynomial, x):
    """Return the least root that is greater than x, None if there is none."""
    check_polynomial(kind, polynomial)
    check_value(kind, x, "x")
    families = root_families(polynomial, kind.bits)
    return first_wanted(lambda start, end: total_inside(families, start, end), x + 1, greatest(kind))


def root_below(kind, polynomial, x):
    """Return the greatest root that is less than x, None if there is none."""
    check_polynomial(kind, polynomial)
    check_value(kind, x, "x")
    families = root_families(polynomial, kind.bits)
    return last_wanted(lambda start, end: total_inside(families, start, end), least(kind), x - 1)


def _all_families(kind, polynomials):
    """Return the families of the roots of each polynomial of a list, which is checked."""
    check_kind(kind)
    if not (isinstance(polynomials, list) and 1 <= len(polynomials) <= MOST_POLYNOMIALS):
        raise InvalidBound("polynomials")
    if not all([is_polynomial(polynomial) for polynomial in polynomials]):
        raise InvalidBound("polynomials")
    return [root_families(polynomial, kind.bits) for polynomial in polynomials]


def common_roots(kind, polynomials):
    """Return the families of the values that are roots of all polynomials of a list."""
    shared = [(0, 0)]
    for families in _all_families(kind, polynomials):
        shared = common(shared, families)
    return shared


def root_counts(kind, polynomials):
    """Return for how many values none, one, two and so on of the polynomials of a list have a root there."""
    many = {}
    for families in _all_families(kind, polynomials):
        for family in families:
            many[family] = many.get(family, 0) + 1
    counts = [1 << kind.bits] + [0] * len(polynomials)
    # Each family moves its values behind those that count the larger families around it alone.
    for inner, here in many.items():
        around = sum([many[outer] for outer in many if outer != inner and contains(outer, inner)])
        size = family_size(inner, kind.bits)
        counts[around] -= size
        counts[around + here] += size
    return counts
