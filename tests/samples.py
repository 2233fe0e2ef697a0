"""Kinds for the tests, with their values worked out by the words of the document."""

from farwrap.kinds import Kind

BYTE = Kind(8, False)
SMALL = Kind(8, True)
WORD = Kind(16, False)
HUGE = 10 ** 999
# The least integer of more than 60 digits.
TOO_LONG = 10 ** 60
WIDE_KINDS = [Kind(bits, is_signed) for bits in (64, 128) for is_signed in (False, True)]


def all_kinds(most=128):
    return [Kind(bits, is_signed) for bits in range(1, most + 1) for is_signed in (False, True)]


def bounds(kind):
    """The least and the greatest value, as point 5 tells them."""
    bits, is_signed = kind.parts()
    if is_signed:
        return -(2 ** (bits - 1)), 2 ** (bits - 1) - 1
    return 0, 2 ** bits - 1


def wrap(kind, n):
    """The value that is equal to n modulo 2 ** w, as point 6 tells it."""
    size = 2 ** kind.parts()[0]
    n = n % size
    return n if n <= bounds(kind)[1] else n - size


def values(kind):
    low, high = bounds(kind)
    return range(low, high + 1)


def twos_in(n, most):
    """How often 2 divides an integer, `most` if that is more often."""
    count = 0
    while count < most and n % 2 ** (count + 1) == 0:
        count += 1
    return count


def shares(numbers, count):
    """At most so many of a row of numbers, evenly spread, with the first one and the last one."""
    numbers = list(numbers)
    if len(numbers) <= count:
        return numbers
    return [numbers[place * (len(numbers) - 1) // (count - 1)] for place in range(count)]
