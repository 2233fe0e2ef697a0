"""Plain integers, before any kind comes in."""

from farwrap.errors import InvalidBound


def is_integer(value):
    """Return whether an object is an integer; True and False are none."""
    return isinstance(value, int) and not isinstance(value, bool)


def check_integer(value, argument):
    """Raise the error of an argument that is not an integer."""
    if not is_integer(value):
        raise InvalidBound(argument)


def toward_zero(x, y):
    """Return x / y rounded toward 0, for a y other than 0."""
    # Python rounds down, which differs for a quotient below 0.
    quotient = abs(x) // abs(y)
    return quotient if (x < 0) == (y < 0) else -quotient


def odd_inverse(x, bits):
    """Return y from 0 to 2 ** bits - 1 with x * y equal to 1 modulo 2 ** bits, for an odd x."""
    size = 1 << bits
    y = x % size
    # An odd x is its own inverse modulo 8, and each turn doubles the number of right bits.
    for _ in range(bits.bit_length()):
        y = y * (2 - x * y) % size
    return y
