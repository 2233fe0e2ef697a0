"""Families (first, k): all integers that are equal to `first` modulo 2 ** k.

Of two families one contains the other, or they have nothing in common.
"""


def joined(families, bits):
    """Return the ascending list of families, k from 0 to `bits`, that stands for the same integers.

    No two of those that are passed have anything in common, and no two of the list make up one family.
    """
    found = {family: True for family in families}
    # The smallest families come first, as two that are joined may be half of a larger one.
    for k in range(bits, 0, -1):
        half = 1 << (k - 1)
        for first, depth in list(found):
            if depth == k and first < half and (first + half, k) in found:
                del found[(first, k)]
                del found[(first + half, k)]
                found[(first, k - 1)] = True
    return sorted(found)


def contains(outer, inner):
    """Return whether all integers of a family are of another one."""
    first, k = outer
    return k <= inner[1] and (inner[0] - first) % (1 << k) == 0


def common(families, others):
    """Return the ascending list of the families of all integers that are of one family of each list.

    If no two families of either list make up one, no two of this list do.
    """
    pairs = [(one, other) for one in families for other in others]
    smaller = [other for one, other in pairs if contains(one, other)]
    return sorted(smaller + [one for one, other in pairs if one != other and contains(other, one)])


def family_size(family, bits):
    """Return how many of 2 ** bits integers in a row are of a family, k at most `bits`."""
    return 1 << (bits - family[1])


def total_size(families, bits):
    """Return how many of 2 ** bits integers in a row are of one of the families."""
    return sum([family_size(family, bits) for family in families])


def size_inside(families, family, bits):
    """Return how many of 2 ** bits integers in a row are of a family, and of one of the others as well."""
    return total_size(common(families, [family]), bits)


def total_inside(families, first, last):
    """Return how many integers from first to last are of one of the families; last is first - 1 at least."""
    return sum([((last - start) >> k) - ((first - 1 - start) >> k) for start, k in families])
