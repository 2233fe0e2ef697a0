"""Searches among the integers of a range of which some are wanted.

`total(start, end)` tells how many are wanted from start to end, 0 if end is less than start.
"""

from farwrap.wholes import check_number


def first_wanted(total, first, last):
    """Return the least wanted integer from first to last, None if there is none."""
    many = total(first, last)
    return None if many == 0 else wanted_of(total, first, last, many, 0)


def last_wanted(total, first, last):
    """Return the greatest wanted integer from first to last, None if there is none."""
    many = total(first, last)
    return None if many == 0 else wanted_of(total, first, last, many, many - 1)


def wanted_at(total, first, last, j):
    """Return number j of the wanted integers from first to last, in ascending order."""
    many = total(first, last)
    check_number(j, many)
    return wanted_of(total, first, last, many, j)


def wanted_of(total, first, last, many, j):
    """Return number j of the wanted integers from first to last, which are `many`, more than j."""
    doubt = 1
    while many <= last - first:
        # Where the wanted ones are spread evenly, number j is close to the guess. The range is split a
        # little beyond it, toward the middle, so that the smaller part has number j. After each failure
        # this is more, up to half of the range, after each success it is less, down to its square root.
        width = last - first
        room = max(1, width.bit_length() >> doubt)
        guess = first + width * (2 * j + 1) // (2 * many)
        middle = first + (width - 1) // 2
        is_low = guess <= middle
        if is_low:
            split = min(guess + (width >> room), middle)
            ahead = total(first, split)
        else:
            split = max(guess - (width >> room) - 1, middle)
            ahead = many - total(split + 1, last)
        is_ahead = j < ahead
        if is_ahead:
            last, many = split, ahead
        else:
            first, many, j = split + 1, many - ahead, j - ahead
        if is_ahead == is_low:
            doubt = max(1, doubt - 1)
        elif room > 1:
            doubt += 1
    return first + j


def least_passing(passes, first, last):
    """Return the least integer that passes, where all behind it do, too, and `last` does."""
    while first < last:
        middle = (first + last) // 2
        if passes(middle):
            last = middle
        else:
            first = middle + 1
    return first
