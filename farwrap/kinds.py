"""Kinds of integers, casts between them, and operations on their values."""

from farwrap.errors import InvalidBound, InvalidKind
from farwrap.operations import DIVISIONS, OPERATIONS, OVERFLOWING, SHIFTS, exact_result
from farwrap.wholes import check_integer, is_integer, odd_inverse, twos_in
from farwrap.words import check_word

MOST_BITS = 128
LONGEST_ROW = 20


class Kind:
    """The integers of a fixed number of bits, with or without a sign."""

    def __init__(self, bits, is_signed):
        if not (is_integer(bits) and 1 <= bits <= MOST_BITS):
            raise InvalidKind("bits")
        if not isinstance(is_signed, bool):
            raise InvalidKind("is_signed")
        self.bits = bits
        self.is_signed = is_signed

    def __eq__(self, other):
        return isinstance(other, Kind) and self.bits == other.bits and self.is_signed == other.is_signed

    def parts(self):
        """Return the tuple (bits, is_signed)."""
        return (self.bits, self.is_signed)


def check_kind(kind):
    """Raise the error of an argument "kind" that is not a kind."""
    if not isinstance(kind, Kind):
        raise InvalidBound("kind")


def check_value(kind, x, argument):
    """Raise the error of an argument that is not a value of a kind."""
    if not is_value(kind, x):
        raise InvalidBound(argument)


def check_row(kinds, argument):
    """Raise the error of an argument that is not a list of 1 to 20 kinds."""
    if not (isinstance(kinds, list) and 1 <= len(kinds) <= LONGEST_ROW):
        raise InvalidBound(argument)
    if not all([isinstance(kind, Kind) for kind in kinds]):
        raise InvalidBound(argument)


def least(kind):
    """Return the least value of a kind."""
    check_kind(kind)
    return -(1 << (kind.bits - 1)) if kind.is_signed else 0


def greatest(kind):
    """Return the greatest value of a kind."""
    return least(kind) + (1 << kind.bits) - 1


def is_value(kind, x):
    """Return whether any object is a value of a kind."""
    check_kind(kind)
    return is_integer(x) and least(kind) <= x <= greatest(kind)


def wrapped(kind, n):
    """Return the value of a kind that is equal to an integer modulo 2 ** bits."""
    check_kind(kind)
    check_integer(n, "n")
    low = least(kind)
    return low + (n - low) % (1 << kind.bits)


def cast(kinds, n):
    """Return what is left of an integer that is wrapped to each kind of a list in turn."""
    check_row(kinds, "kinds")
    check_integer(n, "n")
    for kind in kinds:
        n = wrapped(kind, n)
    return n


def _check_operation(kind, names, name, x, y):
    """Raise the error of the first argument that an operation of these names does not take."""
    check_kind(kind)
    check_word(name, names, "name")
    check_value(kind, x, "x")
    check_value(kind, y, "y")
    if name in DIVISIONS and y == 0:
        raise InvalidBound("y")
    if name in SHIFTS and not 0 <= y < kind.bits:
        raise InvalidBound("y")


def operate(kind, name, x, y):
    """Return the result of an operation of two values of a kind, wrapped."""
    _check_operation(kind, OPERATIONS, name, x, y)
    return wrapped(kind, exact_result(name, x, y))


def overflows(kind, name, x, y):
    """Return whether the exact result of an operation of two values is no value of their kind."""
    _check_operation(kind, OVERFLOWING, name, x, y)
    return not is_value(kind, exact_result(name, x, y))


def inverse(kind, x):
    """Return the value that gives a wrapped 1 when it is multiplied by x, None for an even x."""
    check_kind(kind)
    check_value(kind, x, "x")
    if x % 2 == 0:
        return None
    return wrapped(kind, odd_inverse(x, kind.bits))


def twos(kind, x):
    """Return how often 2 divides a value of a kind, the number of bits for 0."""
    check_kind(kind)
    check_value(kind, x, "x")
    return twos_in(x, kind.bits)
