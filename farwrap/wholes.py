"""Plain integers, before any kind comes in."""

from farwrap.errors import InvalidBound

BEYOND_SIXTY_DIGITS = 10 ** 60


def is_integer(value):
    """Return whether an object is an integer; True and False are none."""
    return isinstance(value, int) and not isinstance(value, bool)


def check_integer(value, argument):
    """Raise the error of an argument that is not an integer."""
    if not is_integer(value):
        raise InvalidBound(argument)


def is_sixty_digits(value):
    """Return whether an object is an integer of at most 60 digits."""
    return is_integer(value) and abs(value) < BEYOND_SIXTY_DIGITS


def check_sixty_digits(value, argument):
    """Raise the error of an argument that is not an integer of at most 60 digits."""
    if not is_sixty_digits(value):
        raise InvalidBound(argument)


def is_count(value):
    """Return whether an object is an integer from 0 on."""
    return is_integer(value) and value >= 0


def check_count(value, argument):
    """Raise the error of an argument that is not an integer from 0 on."""
    if not is_count(value):
        raise InvalidBound(argument)


def check_number(j, total):
    """Raise the error of an argument "j" that is not the number of one of so many."""
    if not (is_count(j) and j < total):
        raise InvalidBound("j")


def factors_of_two(n):
    """Return how often 2 divides an integer other than 0."""
    # Of a number and its negative, the lowest 1 is the only one that both have.
    return (n & -n).bit_length() - 1


def twos_in(n, most):
    """Return how often 2 divides an integer, `most` if that is more often."""
    return most if n % (1 << most) == 0 else factors_of_two(n)


def toward_zero(x, y):
    """Return x / y rounded toward 0, for a y other than 0."""
    # Python rounds down, which differs for a quotient below 0.
    quotient = abs(x) // abs(y)
    return quotient if (x < 0) == (y < 0) else -quotient


def odd_inverse(x, bits):
    """Return y from 0 to 2 ** bits - 1 with x * y equal to 1 modulo 2 ** bits, for an odd x."""
    size = 1 << bits
    y = x % size
    # An odd x is its own inverse modulo 8, and each turn doubles the number of right bits.
    for _ in range(bits.bit_length()):
        y = y * (2 - x * y) % size
    return y
