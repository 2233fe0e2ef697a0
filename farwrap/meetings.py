"""Two generators that do their steps together: after which numbers of steps both have the same value."""

from farwrap.errors import InvalidBound
from farwrap.families import joined, total_inside, total_size
from farwrap.kinds import check_kind, check_value
from farwrap.searches import wanted_at
from farwrap.steps import after, check_generator, moved
from farwrap.wholes import check_count, twos_in


def _check_odd(kind, generator, argument):
    check_generator(kind, generator, argument)
    if generator[0] % 2 == 0:
        raise InvalidBound(argument)


def _check(kind, one, x, other, y):
    check_kind(kind)
    _check_odd(kind, one, "one")
    check_value(kind, x, "x")
    _check_odd(kind, other, "other")
    check_value(kind, y, "y")


class Pair:
    """Two values with the steps of both, where each step stands for 2 ** k steps of the two generators."""

    def __init__(self, first, k, one, x, other, y):
        self.first = first
        self.k = k
        self.one = one
        self.x = x
        self.other = other
        self.y = y

    def gap(self):
        """Return what the first value is more than the second one."""
        return self.x - self.y

    def stepped_on(self, size):
        """Return the pair after one step, which is a family beside this one."""
        first = self.first + (1 << self.k)
        x, y = moved(self.one, self.x, size), moved(self.other, self.y, size)
        return Pair(first, self.k, self.one, x, self.other, y)

    def by_two(self, size):
        """Return the pair whose steps are two of this one."""
        one, other = after(self.one, self.one, size), after(self.other, self.other, size)
        return Pair(self.first, self.k + 1, one, self.x, other, self.y)


def _nearby(one, x, other, y, bits):
    """Return a list of tuples (first, k, twos): families of numbers of steps, each number in just one.

    2 divides the difference of the values so often after each number of steps of the family, `bits` at most.
    """
    size = 1 << bits
    # With the multipliers a and b, each difference is the sum of a + b + 1, -(a + b + a * b) and a * b
    # times those one, two and three steps earlier. So what divides it at three steps in a row divides it
    # always, and what divides the changes from the first of these to both others divides all changes.
    # Few families are left at each k: in squares of odd multipliers 8 divides what they are above 1, so
    # that a difference, as a power series in the number of steps, has two roots at most among the even
    # numbers of steps, and two among the odd ones.
    pairs = [Pair(0, 0, one, x, other, y)]
    found = []
    while pairs:
        below = []
        for pair in pairs:
            then = pair.stepped_on(size)
            change = min(
                twos_in(then.gap() - pair.gap(), bits),
                twos_in(then.stepped_on(size).gap() - pair.gap(), bits),
            )
            here = twos_in(pair.gap(), bits)
            if here < change or change == bits:
                found.append((pair.first, pair.k, here))
            else:
                below.extend([pair.by_two(size), then.by_two(size)])
        pairs = below
    return found


def _meetings(kind, one, x, other, y):
    nearby = _nearby(one, x, other, y, kind.bits)
    return joined([(first, k) for first, k, twos in nearby if twos == kind.bits], kind.bits)


def meetings(kind, one, x, other, y):
    """Return the families of the numbers of steps after which two generators meet."""
    _check(kind, one, x, other, y)
    return _meetings(kind, one, x, other, y)


def meeting_total(kind, one, x, other, y):
    """Return after how many numbers of steps, below the number of values of the kind, two generators meet."""
    return total_size(meetings(kind, one, x, other, y), kind.bits)


def first_meeting(kind, one, x, other, y, first):
    """Return the least number of steps from `first` on after which two generators meet, or None."""
    _check(kind, one, x, other, y)
    check_count(first, "first")
    families = _meetings(kind, one, x, other, y)
    return min([first + (start - first) % (1 << k) for start, k in families], default=None)


def meeting_at(kind, one, x, other, y, j):
    """Return number j of all numbers of steps after which two generators meet."""
    _check(kind, one, x, other, y)
    check_count(j, "j")
    families = _meetings(kind, one, x, other, y)
    total = total_size(families, kind.bits)
    if total == 0:
        raise InvalidBound("j")
    size = 1 << kind.bits
    # They meet again as they did after as many steps as the kind has values.
    turns, rest = divmod(j, total)
    return turns * size + wanted_at(lambda start, end: total_inside(families, start, end), 0, size - 1, rest)


def nearness(kind, one, x, other, y):
    """Return how many lowest bits of both values are equal after some number of steps at most, and the least such."""
    _check(kind, one, x, other, y)
    nearby = _nearby(one, x, other, y, kind.bits)
    most = max([near[2] for near in nearby])
    return (most, min([first for first, _, twos in nearby if twos == most]))
