"""Searches among the integers of a range of which some are wanted.

`total_to(end)` tells how many are wanted from the first of the range up to `end`. Each search
halves the range until one integer is left.
"""

from farwrap.wholes import check_number


def first_wanted(total_to, first, last):
    """Return the least wanted integer from first to last, None if there is none."""
    if total_to(last) == 0:
        return None
    return least_passing(lambda end: total_to(end) > 0, first, last)


def last_wanted(total_to, first, last):
    """Return the greatest wanted integer from first to last, None if there is none."""
    total = total_to(last)
    if total == 0:
        return None
    return least_passing(lambda end: total_to(end) == total, first, last)


def wanted_at(total_to, first, last, j):
    """Return number j of the wanted integers from first to last, in ascending order."""
    check_number(j, total_to(last))
    return least_passing(lambda end: total_to(end) > j, first, last)


def least_passing(passes, first, last):
    """Return the least integer that passes, where all behind it do, too, and `last` does."""
    while first < last:
        middle = (first + last) // 2
        if passes(middle):
            last = middle
        else:
            first = middle + 1
    return first
