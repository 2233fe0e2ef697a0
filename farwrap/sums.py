"""Sums and least remainders over all integers of a range, found by Euclid's division, not one by one."""


def quotient_total(line, size, first, last):
    """Return the sum of (a * x + b) / size, each rounded down, for all x from first to last."""
    a, b = line
    count = last - first + 1
    if count <= 0:
        return 0
    b += a * first
    total = 0
    while True:
        total += count * (count - 1) // 2 * (a // size) + count * (b // size)
        a, b = a % size, b % size
        top = a * count + b
        if top < size:
            return total
        # What is left are the points with whole coordinates below a line that climbs less than 1
        # at each step. They are counted row by row from the top, where it climbs size / a.
        count, b = divmod(top, size)
        a, size = size, a


def total_between(line, size, first, last, low, high):
    """Return for how many x from first to last a * x + b is from low to high, but for a multiple of size.

    From low to high there are at most `size` integers; there may be none.
    """
    if high < low:
        return 0
    a, b = line
    # The two quotients differ by the number of multiples of size that may be taken away.
    return quotient_total((a, b - low), size, first, last) - quotient_total((a, b - high - 1), size, first, last)


def least_remainder(line, size, first, last):
    """Return the least of a * x + b, each less a multiple of size, for all x from first to last; there is one."""
    a, b = line
    start, step, steps = (a * first + b) % size, a % size, last - first
    least = start
    while step > 0:
        if 2 * step > size:
            # Seen from the last one on, the same remainders go up by the rest of size.
            start, step = (start + step * steps) % size, size - step
            least = min(least, start)
        laps = (start + step * steps) // size
        if laps == 0:
            return least
        # Each time that size is passed there is a new least one, below step. It goes around there.
        start, step, size, steps = (start - size) % step, -size % step, step, laps - 1
        least = min(least, start)
    return least
