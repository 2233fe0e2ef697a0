"""Two lines with wrapped results compared for all x of a range, and overflow counted for whole ranges."""

from farwrap.errors import InvalidBound
from farwrap.hits import hit_at
from farwrap.kinds import check_kind, check_value, greatest, is_value, least, wrapped
from farwrap.lines import check_line, check_range, exact_at
from farwrap.searches import wanted_of
from farwrap.sums import quotient_total, total_between
from farwrap.wholes import check_number, check_sixty_digits
from farwrap.words import RELATIONS, check_word, opposite, stands

VALUE_OPERATIONS = ("add", "subtract", "multiply")
PAIR_OPERATIONS = ("add", "subtract")


def _check_lines(kind, one, relation, other):
    check_kind(kind)
    check_line(one, "one")
    check_word(relation, RELATIONS, "relation")
    check_line(other, "other")


def _check(kind, one, relation, other, first, last):
    _check_lines(kind, one, relation, other)
    check_range(first, last)


def compares(kind, one, relation, other, x):
    """Return whether the result of one line at x stands in a relation to that of the other."""
    _check_lines(kind, one, relation, other)
    check_sixty_digits(x, "x")
    return stands(wrapped(kind, exact_at(one, x)), relation, wrapped(kind, exact_at(other, x)))


def _count(first, last):
    return max(0, last - first + 1)


def _gap(one, other):
    """Return the line of what one line is above the other."""
    return (one[0] - other[0], one[1] - other[1])


def _less_total(kind, one, other, first, last):
    """Return for how many x the result of one line is less than that of the other."""
    size = 1 << kind.bits
    base = (0, least(kind))
    # Each integer is a multiple of size above its wrapped result. The quotients tell which one.
    # The gap's quotient is the difference of these, less 1 just where the first result is less.
    one_total = quotient_total(_gap(one, base), size, first, last)
    other_total = quotient_total(_gap(other, base), size, first, last)
    return one_total - other_total - quotient_total(_gap(one, other), size, first, last)


def _equal_total(kind, one, other, first, last):
    return total_between(_gap(one, other), 1 << kind.bits, first, last, 0, 0)


def _total(kind, one, relation, other, first, last):
    match relation:
        case "<":
            return _less_total(kind, one, other, first, last)
        case "<=":
            return _count(first, last) - _less_total(kind, other, one, first, last)
        case "==":
            return _equal_total(kind, one, other, first, last)
        case "!=":
            return _count(first, last) - _equal_total(kind, one, other, first, last)
        case ">=":
            return _count(first, last) - _less_total(kind, one, other, first, last)
        case _:
            return _less_total(kind, other, one, first, last)


def holds(kind, one, relation, other, first, last):
    """Return for how many x from first to last the relation holds for the results."""
    _check(kind, one, relation, other, first, last)
    return _total(kind, one, relation, other, first, last)


def _less_hits(kind, one, other):
    """Return a tuple (line, low, high): one result is less than the other just where that of the line is between.

    None if there is no such line, as both results and their gap change.
    """
    size = 1 << kind.bits
    low, high = least(kind), greatest(kind)
    if one[0] % size == 0:
        return (other, wrapped(kind, one[1]) + 1, high)
    if other[0] % size == 0:
        return (one, low, wrapped(kind, other[1]) - 1)
    gap = _gap(one, other)
    # The first result is the other one and the gap. It is less just where this wraps.
    return (one, low, low + gap[1] % size - 1) if gap[0] % size == 0 else None


def _hits(kind, one, relation, other):
    """Return the tuple of `_less_hits` for any relation; it is between, but for a multiple of the size."""
    size = 1 << kind.bits
    match relation:
        case "==":
            return (_gap(one, other), 0, 0)
        case "<":
            return _less_hits(kind, one, other)
        case ">":
            return _less_hits(kind, other, one)
        case _:
            found = _hits(kind, one, opposite(relation), other)
    if found is None:
        return None
    line, low, high = found
    return (line, high + 1, low + size - 1)


def _holding(kind, one, relation, other, first, last, total, j):
    """Return number j of the x from first to last for which the relation holds, which are `total`, more than j."""
    hits = _hits(kind, one, relation, other)
    if hits is None:
        return wanted_of(
            lambda start, end: _total(kind, one, relation, other, start, end), first, last, total, j,
        )
    line, low, high = hits
    return hit_at(line, 1 << kind.bits, first, low, high, j)


def _first_holding(kind, one, relation, other, first, last):
    total = _total(kind, one, relation, other, first, last)
    return None if total == 0 else _holding(kind, one, relation, other, first, last, total, 0)


def first_holding(kind, one, relation, other, first, last):
    """Return the least x from first to last for which the relation holds, or None."""
    _check(kind, one, relation, other, first, last)
    return _first_holding(kind, one, relation, other, first, last)


def last_holding(kind, one, relation, other, first, last):
    """Return the greatest x from first to last for which the relation holds, or None."""
    _check(kind, one, relation, other, first, last)
    total = _total(kind, one, relation, other, first, last)
    return None if total == 0 else _holding(kind, one, relation, other, first, last, total, total - 1)


def holding_at(kind, one, relation, other, first, last, j):
    """Return number j of the x from first to last for which the relation holds."""
    _check(kind, one, relation, other, first, last)
    total = _total(kind, one, relation, other, first, last)
    check_number(j, total)
    return _holding(kind, one, relation, other, first, last, total, j)


def _ordered_parts(one, other, first, last):
    """Return the parts of a range ahead of the x where two lines cross, at it, and behind it.

    In each part the integers of the lines, not wrapped, are in the same order for all x.
    """
    slope, above = _gap(one, other)
    if slope == 0:
        return [(first, last)]
    # Lines that cross between two integers are at the one below in the same order as ahead of it.
    crossing = -above // slope
    return [
        (first, min(last, crossing - 1)),
        (max(first, crossing), min(last, crossing)),
        (max(first, crossing + 1), last),
    ]


def _surprising_parts(one, relation, other, first, last):
    """Return the parts of a range as tuples (first, last, relation): x is a surprise where this one holds."""
    return [
        (start, end, opposite(relation) if stands(exact_at(one, start), relation, exact_at(other, start)) else relation)
        for start, end in _ordered_parts(one, other, first, last)
    ]


def surprises(kind, one, relation, other, first, last):
    """Return for how many x the relation holds for the results, but not unwrapped, or the other way round."""
    _check(kind, one, relation, other, first, last)
    parts = _surprising_parts(one, relation, other, first, last)
    return sum([_total(kind, one, wanted, other, start, end) for start, end, wanted in parts])


def first_surprise(kind, one, relation, other, first, last):
    """Return the least x that `surprises` counts, None if there is none."""
    _check(kind, one, relation, other, first, last)
    for start, end, wanted in _surprising_parts(one, relation, other, first, last):
        x = _first_holding(kind, one, wanted, other, start, end)
        if x is not None:
            return x
    return None


def _factors_between(c, low, high):
    """Return the least and the greatest x with x * c from low to high, for a c other than 0."""
    if c < 0:
        c, low, high = -c, -high, -low
    return (-(-low // c), high // c)


def _safe_values(kind, name, c):
    low, high = least(kind), greatest(kind)
    match name:
        case "add":
            start, end = low - c, high - c
        case "subtract":
            start, end = low + c, high + c
        case _:
            start, end = (low, high) if c == 0 else _factors_between(c, low, high)
    return (max(low, start), min(high, end))


def _check_constant(kind, name, c):
    check_kind(kind)
    check_word(name, VALUE_OPERATIONS, "name")
    check_value(kind, c, "c")


def overflow_total(kind, name, c, first, last):
    """Return for how many values x from first to last the operation of x and c overflows."""
    _check_constant(kind, name, c)
    check_value(kind, first, "first")
    check_value(kind, last, "last")
    start, end = _safe_values(kind, name, c)
    return _count(first, last) - _count(max(first, start), min(last, end))


def safe_values(kind, name, c):
    """Return the least and the greatest value x for which the operation of x and c does not overflow."""
    _check_constant(kind, name, c)
    return _safe_values(kind, name, c)


def _check_span(kind, span, argument):
    if not (isinstance(span, tuple) and len(span) == 2):
        raise InvalidBound(argument)
    if not (is_value(kind, span[0]) and is_value(kind, span[1]) and span[0] <= span[1]):
        raise InvalidBound(argument)


def _check_pairs(kind, name, xs, ys):
    check_kind(kind)
    check_word(name, PAIR_OPERATIONS, "name")
    _check_span(kind, xs, "xs")
    _check_span(kind, ys, "ys")


def _corner(height):
    """Return how many pairs of integers from 0 on have at most this sum."""
    return (height + 1) * (height + 2) // 2 if height >= 0 else 0


def _sums_up_to(xs, ys, most):
    """Return how many pairs of two spans have at most this sum."""
    height = most - xs[0] - ys[0]
    width, depth = _count(xs[0], xs[1]), _count(ys[0], ys[1])
    # Pairs beyond the end of a span are taken away, those beyond both ends once only.
    return _corner(height) - _corner(height - width) - _corner(height - depth) + _corner(height - width - depth)


def _pairs_between(name, xs, ys, low, high):
    """Return for how many pairs the exact result of an operation is from low to high, none if low is greater."""
    if name == "subtract":
        ys = (-ys[1], -ys[0])
    return max(0, _sums_up_to(xs, ys, high) - _sums_up_to(xs, ys, low - 1))


def pair_overflows(kind, name, xs, ys):
    """Return for how many pairs of a value of each span the operation overflows."""
    _check_pairs(kind, name, xs, ys)
    pairs = _count(xs[0], xs[1]) * _count(ys[0], ys[1])
    return pairs - _pairs_between(name, xs, ys, least(kind), greatest(kind))


def pairs_within(kind, name, xs, ys, low, high):
    """Return for how many pairs of a value of each span the wrapped result is from low to high."""
    _check_pairs(kind, name, xs, ys)
    check_value(kind, low, "low")
    check_value(kind, high, "high")
    size = 1 << kind.bits
    # The sum or difference of two values wraps by one size at most, up or down.
    return sum([_pairs_between(name, xs, ys, low + shift, high + shift) for shift in (-size, 0, size)])
