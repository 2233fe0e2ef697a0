"""Sums over all integers of a range, found in as many turns as long division has, not one by one."""


def quotient_total(line, size, first, last):
    """Return the sum of (a * x + b) / size, each rounded down, for all x from first to last."""
    a, b = line
    count = last - first + 1
    if count <= 0:
        return 0
    b += a * first
    total = 0
    while True:
        total += count * (count - 1) // 2 * (a // size) + count * (b // size)
        a, b = a % size, b % size
        top = a * count + b
        if top < size:
            return total
        # What is left are the points with whole coordinates below a line that climbs less than 1
        # at each step. They are counted row by row from the top, where it climbs size / a.
        count, b = divmod(top, size)
        a, size = size, a


def total_between(line, size, first, last, low, high):
    """Return for how many x from first to last a * x + b is from low to high, but for a multiple of size.

    From low to high there are at most `size` integers; there may be none.
    """
    if high < low:
        return 0
    a, b = line
    # The two quotients differ by the number of multiples of size that may be taken away.
    return quotient_total((a, b - low), size, first, last) - quotient_total((a, b - high - 1), size, first, last)
