"""Kinds for the tests, with their values worked out by the words of the document."""

from farwrap.kinds import Kind

BYTE = Kind(8, False)
SMALL = Kind(8, True)
WORD = Kind(16, False)
HUGE = 10 ** 999
# The least integer of more than 60 digits.
TOO_LONG = 10 ** 60
WIDE_KINDS = [Kind(bits, is_signed) for bits in (64, 128) for is_signed in (False, True)]


def all_kinds(most=128):
    return [Kind(bits, is_signed) for bits in range(1, most + 1) for is_signed in (False, True)]


def bounds(kind):
    """The least and the greatest value, as point 5 tells them."""
    bits, is_signed = kind.parts()
    if is_signed:
        return -(2 ** (bits - 1)), 2 ** (bits - 1) - 1
    return 0, 2 ** bits - 1


def wrap(kind, n):
    """The value that is equal to n modulo 2 ** w, as point 6 tells it."""
    size = 2 ** kind.parts()[0]
    n = n % size
    return n if n <= bounds(kind)[1] else n - size


def values(kind):
    low, high = bounds(kind)
    return range(low, high + 1)


def twos_in(n, most):
    """How often 2 divides an integer, `most` if that is more often."""
    count = 0
    while count < most and n % 2 ** (count + 1) == 0:
        count += 1
    return count


def shares(numbers, count):
    """At most so many of a row of numbers, evenly spread, with the first one and the last one."""
    numbers = list(numbers)
    if len(numbers) <= count:
        return numbers
    return [numbers[place * (len(numbers) - 1) // (count - 1)] for place in range(count)]


def hard_factors(size):
    """Factors near to multiples and to simple fractions of a size, powers of two, and those of slow division."""
    found = [0, 1, 2, 3, 5, -1, -2, -7, 10 ** 59 - 1, 1 - 10 ** 59, 10 ** 37 * 3 + 7]
    for part in (1, 2, 3, 5, 7, 64, 1000, 10 ** 9 + 7, 2 ** 40 - 1):
        for near in (-(2 ** 30), -3, -1, 0, 1, 2, 17, 10 ** 6, 2 ** 61):
            found.append(size // part + near)
    found += [2 ** k + near for k in range(1, size.bit_length(), 5) for near in (-1, 0, 1)]
    # The quotients of these are all the same, 1 at first, which makes for most laps in laps.
    for quotient in (1, 2, 3, 40, 2 ** 16, 2 ** 33):
        one, two = 0, 1
        while two * quotient < size:
            one, two = two, quotient * two + one
        found.append(size * one // two)
    return sorted({factor % size for factor in found} | {factor for factor in found if abs(factor) > size})
