"""Loops `for (x = a; x word b; x += c)` with an x that wraps: their rounds, and the values of x in them."""

from farwrap.errors import InvalidBound
from farwrap.hits import first_hit
from farwrap.kinds import check_kind, check_value, greatest, is_value, least, twos, wrapped
from farwrap.sums import total_between
from farwrap.wholes import check_count, is_count
from farwrap.words import RELATIONS, check_word, is_word


def _is_loop(kind, value):
    if not (isinstance(value, tuple) and len(value) == 4):
        return False
    a, word, b, c = value
    return is_value(kind, a) and is_word(word, RELATIONS) and is_value(kind, b) and is_value(kind, c)


def _check(kind, loop):
    check_kind(kind)
    if not _is_loop(kind, loop):
        raise InvalidBound("loop")


def _stops(kind, word, b):
    """Return the first and the last integer of those where the comparison does not hold, once wrapped.

    They are at most as many as the kind has values; there may be none.
    """
    match word:
        case "<":
            return (b, greatest(kind))
        case "<=":
            return (b + 1, greatest(kind))
        case ">":
            return (least(kind), b)
        case ">=":
            return (least(kind), b - 1)
        case "==":
            return (b + 1, b + (1 << kind.bits) - 1)
        case _:
            return (b, b)


def _line(loop):
    """Return the line of what x is, not wrapped, after so many additions."""
    return (loop[3], loop[0])


def _first_among(kind, loop, low, high):
    """Return after how many additions x is from low to high at first, with no look at the comparison, or None."""
    return first_hit(_line(loop), 1 << kind.bits, low, high)


def _rounds(kind, loop):
    low, high = _stops(kind, loop[1], loop[2])
    return _first_among(kind, loop, low, high)


def _after(loop, n):
    """Return what x is, not wrapped, after n additions."""
    return loop[0] + n * loop[3]


def _is_round(kind, loop, n):
    total = _rounds(kind, loop)
    return total is None or n < total


def _check_first_rounds(kind, loop, n):
    """Raise the error of an argument "n" if there are not so many rounds."""
    total = _rounds(kind, loop)
    if not (is_count(n) and (total is None or n <= total)):
        raise InvalidBound("n")


def rounds(kind, loop):
    """Return how many rounds a loop has, None if it goes on for ever."""
    _check(kind, loop)
    return _rounds(kind, loop)


def round_value(kind, loop, n):
    """Return the value of x in round number n, None if there is no such round."""
    _check(kind, loop)
    check_count(n, "n")
    return wrapped(kind, _after(loop, n)) if _is_round(kind, loop, n) else None


def end_value(kind, loop):
    """Return the value of x behind the last round, None if the loop goes on for ever."""
    _check(kind, loop)
    total = _rounds(kind, loop)
    return None if total is None else wrapped(kind, _after(loop, total))


def wraps(kind, loop, n):
    """Return behind how many of the first n rounds x wraps."""
    _check(kind, loop)
    _check_first_rounds(kind, loop, n)
    end = _after(loop, n)
    # Each time takes away as much, in the same direction.
    return abs(end - wrapped(kind, end)) >> kind.bits


def first_round(kind, loop, low, high):
    """Return the number of the first round in which x is from low to high, None if there is none."""
    _check(kind, loop)
    check_value(kind, low, "low")
    check_value(kind, high, "high")
    n = _first_among(kind, loop, low, high)
    return n if n is not None and _is_round(kind, loop, n) else None


def rounds_within(kind, loop, low, high, n):
    """Return in how many of the first n rounds x is from low to high."""
    _check(kind, loop)
    check_value(kind, low, "low")
    check_value(kind, high, "high")
    _check_first_rounds(kind, loop, n)
    return total_between(_line(loop), 1 << kind.bits, 0, n - 1, low, high)


def endless_starts(kind, word, b, c):
    """Return for how many values a the loop (a, word, b, c) goes on for ever."""
    check_kind(kind)
    check_word(word, RELATIONS, "word")
    check_value(kind, b, "b")
    check_value(kind, c, "c")
    low, high = _stops(kind, word, b)
    # x comes to all values that are equal to a modulo the power of two in c. The loop goes on for
    # ever if it stops at none of them.
    power = twos(kind, c)
    families = 1 << power
    return (families - min(families, high - low + 1)) << (kind.bits - power)
