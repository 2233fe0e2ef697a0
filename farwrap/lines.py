"""Lines a * x + b with wrapped results: where these lie, for all x of a range."""

from farwrap.errors import InvalidBound
from farwrap.hits import hit_at
from farwrap.kinds import check_kind, check_value, greatest, least, wrapped
from farwrap.sums import least_remainder, total_between
from farwrap.wholes import check_number, check_sixty_digits, is_sixty_digits


def check_line(line, argument):
    """Raise the error of an argument that is not a line."""
    if not (isinstance(line, tuple) and len(line) == 2):
        raise InvalidBound(argument)
    if not (is_sixty_digits(line[0]) and is_sixty_digits(line[1])):
        raise InvalidBound(argument)


def check_range(first, last):
    """Raise the error of the first end of a range that is not an integer of at most 60 digits."""
    check_sixty_digits(first, "first")
    check_sixty_digits(last, "last")


def _check(kind, line, first, last):
    check_kind(kind)
    check_line(line, "line")
    check_range(first, last)


def _check_within(kind, line, first, last, low, high):
    _check(kind, line, first, last)
    check_value(kind, low, "low")
    check_value(kind, high, "high")


def exact_at(line, x):
    """Return a * x + b, not wrapped."""
    a, b = line
    return a * x + b


def result(kind, line, x):
    """Return the result of a line at x."""
    check_kind(kind)
    check_line(line, "line")
    check_sixty_digits(x, "x")
    return wrapped(kind, exact_at(line, x))


def _total(kind, line, first, last, low, high):
    return total_between(line, 1 << kind.bits, first, last, low, high)


def _hit(kind, line, first, low, high, j):
    """Return number j of the x from first on whose result is from low to high; there is one."""
    return hit_at(line, 1 << kind.bits, first, low, high, j)


def total_within(kind, line, first, last, low, high):
    """Return for how many x from first to last the result is from low to high."""
    _check_within(kind, line, first, last, low, high)
    return _total(kind, line, first, last, low, high)


def first_within(kind, line, first, last, low, high):
    """Return the least x from first to last whose result is from low to high, or None."""
    _check_within(kind, line, first, last, low, high)
    total = _total(kind, line, first, last, low, high)
    return None if total == 0 else _hit(kind, line, first, low, high, 0)


def last_within(kind, line, first, last, low, high):
    """Return the greatest x from first to last whose result is from low to high, or None."""
    _check_within(kind, line, first, last, low, high)
    total = _total(kind, line, first, last, low, high)
    return None if total == 0 else _hit(kind, line, first, low, high, total - 1)


def within_at(kind, line, first, last, low, high, j):
    """Return number j of the x from first to last whose result is from low to high."""
    _check_within(kind, line, first, last, low, high)
    check_number(j, _total(kind, line, first, last, low, high))
    return _hit(kind, line, first, low, high, j)


def least_result(kind, line, first, last):
    """Return the least result and the least x that has it as a tuple, None if there is no x."""
    _check(kind, line, first, last)
    if last < first:
        return None
    a, b = line
    low = least(kind)
    y = low + least_remainder((a, b - low), 1 << kind.bits, first, last)
    return (y, _hit(kind, line, first, y, y, 0))


def greatest_result(kind, line, first, last):
    """Return the greatest result and the least x that has it as a tuple, None if there is no x."""
    _check(kind, line, first, last)
    if last < first:
        return None
    a, b = line
    high = greatest(kind)
    y = high - least_remainder((-a, high - b), 1 << kind.bits, first, last)
    return (y, _hit(kind, line, first, y, y, 0))


def _falling(kind, line):
    """Return the least and the greatest result behind which the next one is less; there may be none between."""
    # A step adds a, modulo the number of values. It goes down where this leads past the greatest
    # value: from the last ones, as many as are added.
    added = line[0] % (1 << kind.bits)
    return (greatest(kind) + 1 - added, greatest(kind))


def descents(kind, line, first, last):
    """Return for how many x from first to last the result at x + 1 is less than at x."""
    _check(kind, line, first, last)
    low, high = _falling(kind, line)
    return _total(kind, line, first, last, low, high)


def descent_at(kind, line, first, last, j):
    """Return number j of the x from first to last at which the result at x + 1 is less than at x."""
    _check(kind, line, first, last)
    low, high = _falling(kind, line)
    check_number(j, _total(kind, line, first, last, low, high))
    return _hit(kind, line, first, low, high, j)
