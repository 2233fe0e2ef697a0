"""Rows of casts: which of them do the same, and what becomes of the values of a kind.

A row that is as short as can be is a kind alone, or a signed kind and an unsigned one of more bits.
The lowest bits of an integer, as many as its first kind has, tell what becomes of the integer.
"""

from farwrap.kinds import check_kind, check_row, greatest, least
from farwrap.searches import wanted_at
from farwrap.sums import total_between
from farwrap.wholes import check_integer, check_number


def _shortened(kinds):
    """Return the shortest row that does the same as a row of any length."""
    row = []
    for kind in kinds:
        # A cast leaves nothing of casts ahead of it that have as many bits or more.
        row = [earlier for earlier in row if earlier.bits < kind.bits]
        # What comes from fewer bits stays as it is, unless it may be below 0 and the kind has no sign.
        if not row or (row[-1].is_signed and not kind.is_signed):
            row.append(kind)
    return row


def _spans(row):
    """Return the ascending list of tuples (first, last) of what a shortest row returns for all integers."""
    inner, outer = row[0], row[-1]
    if len(row) == 1:
        return [(least(inner), greatest(inner))]
    size = 1 << outer.bits
    return [(0, greatest(inner)), (size + least(inner), size - 1)]


def _common_spans(spans, others):
    """Return the ascending list of the spans of all integers that are in a span of each list."""
    pairs = [(max(a, c), min(b, d)) for a, b in spans for c, d in others]
    return sorted([(first, last) for first, last in pairs if first <= last])


def _total(spans):
    return sum([last - first + 1 for first, last in spans])


def _check_kind_and_row(kind, kinds):
    check_kind(kind)
    check_row(kinds, "kinds")


def do_same(kinds, others):
    """Return whether two rows of casts return the same for each integer."""
    check_row(kinds, "kinds")
    check_row(others, "others")
    return _shortened(kinds) == _shortened(others)


def shortest(kinds):
    """Return the shortest row of casts that does the same."""
    check_row(kinds, "kinds")
    return _shortened(kinds)


def _survivors(kind, kinds):
    # What a row returns it leaves as it is, and nothing else.
    return _common_spans(_spans(_shortened(kinds)), [(least(kind), greatest(kind))])


def survivors(kind, kinds):
    """Return the values of a kind that a row of casts leaves as they are, as few tuples (first, last)."""
    _check_kind_and_row(kind, kinds)
    return _survivors(kind, kinds)


def survivor_total(kind, kinds):
    """Return how many values of a kind a row of casts leaves as they are."""
    _check_kind_and_row(kind, kinds)
    return _total(_survivors(kind, kinds))


def _from_kind(kind, kinds):
    """Return the shortest row that does for all integers, cast to a kind at first, what another one does."""
    return _shortened([kind] + kinds)


def results(kind, kinds):
    """Return what a row of casts returns for the values of a kind, as few tuples (first, last)."""
    _check_kind_and_row(kind, kinds)
    return _spans(_from_kind(kind, kinds))


def _origin_total(kind, row, y):
    is_result = any([first <= y <= last for first, last in _spans(row)])
    return 1 << (kind.bits - row[0].bits) if is_result else 0


def origin_total(kind, kinds, y):
    """Return for how many values of a kind a row of casts returns y."""
    _check_kind_and_row(kind, kinds)
    check_integer(y, "y")
    return _origin_total(kind, _from_kind(kind, kinds), y)


def origin_at(kind, kinds, y, j):
    """Return number j of the values of a kind for which a row of casts returns y."""
    _check_kind_and_row(kind, kinds)
    check_integer(y, "y")
    row = _from_kind(kind, kinds)
    check_number(j, _origin_total(kind, row, y))
    size = 1 << row[0].bits
    low = least(kind)
    return low + (y - low) % size + j * size


def _same_results(kind, kinds, others):
    """Return the tuple (spans, bits) of all results that two rows share for the same value of a kind.

    The values that have one of them are those that are equal to it modulo 2 ** bits.
    """
    row, other = _from_kind(kind, kinds), _from_kind(kind, others)
    # An integer that both return comes from the same lowest bits as it has itself, and all of these
    # bits are needed for the row that looks at more of them.
    return (_common_spans(_spans(row), _spans(other)), max(row[0].bits, other[0].bits))


def _apart_total(same, first, last):
    """Return for how many integers from first to last, first - 1 at least, the results are not the same."""
    spans, bits = same
    return last - first + 1 - sum([total_between((1, 0), 1 << bits, first, last, low, high) for low, high in spans])


def _check_two(kind, kinds, others):
    _check_kind_and_row(kind, kinds)
    check_row(others, "others")


def apart_total(kind, kinds, others):
    """Return for how many values of a kind two rows of casts have different results."""
    _check_two(kind, kinds, others)
    return _apart_total(_same_results(kind, kinds, others), least(kind), greatest(kind))


def apart_at(kind, kinds, others, j):
    """Return number j of the values of a kind for which two rows of casts have different results."""
    _check_two(kind, kinds, others)
    same = _same_results(kind, kinds, others)
    return wanted_at(lambda start, end: _apart_total(same, start, end), least(kind), greatest(kind), j)


def shortest_for(kind, kinds):
    """Return the shortest row of casts with the same results for all values of a kind.

    Of several that are equally short it is the first one, as lists of their parts are compared.
    """
    _check_kind_and_row(kind, kinds)
    row = _from_kind(kind, kinds)
    # A cast to the kind itself changes none of its values, so that it is needed only to have a cast at all.
    # All other casts are: a row with fewer bits, or without the sign, does not return the same.
    return row[1:] if len(row) == 2 and row[0] == kind else row
