"""The ten operations on two integers, with their exact results."""

from farwrap.wholes import toward_zero

OPERATIONS = ("add", "subtract", "multiply", "divide", "remainder", "and", "or", "xor", "left", "right")
OVERFLOWING = ("add", "subtract", "multiply", "divide", "left")
DIVISIONS = ("divide", "remainder")
SHIFTS = ("left", "right")


def exact_result(name, x, y):
    """Return the result of one of the operations, not wrapped, for a y that it takes."""
    match name:
        case "add":
            return x + y
        case "subtract":
            return x - y
        case "multiply":
            return x * y
        case "divide":
            return toward_zero(x, y)
        case "remainder":
            return x - y * toward_zero(x, y)
        case "left":
            return x << y
        case "right":
            return x >> y
        case _:
            return _bitwise(name, x, y)


def _bitwise(name, x, y):
    # Python takes an integer below 0 as endless bits in two's complement,
    # so the lowest bits of the result are those that each kind asks for.
    match name:
        case "and":
            return x & y
        case "or":
            return x | y
        case _:
            return x ^ y
