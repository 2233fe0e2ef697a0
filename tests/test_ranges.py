"""Roots in ranges, in order and in common: points 25 to 28, against trying all values, and by formulas."""

import copy
import unittest

from farwrap.kinds import Kind
from farwrap.ranges import common_roots, root_above, root_at, root_below, root_counts, roots_within
from farwrap.roots import root_total, roots
from tests.polynomials import LONGEST, all_roots, families_of, long_polynomials, mixed_polynomials, product, short_polynomials
from tests.samples import BYTE, HUGE, SMALL, TOO_LONG, WIDE_KINDS, all_kinds, bounds, shares, values, wrap
from tests.wrong import (
    check_bound, check_bounds, no_kinds, no_numbers, not_lists_of_polynomials, not_polynomials, not_values,
)

SQUARE = [-1, 0, 1]


def small_cases():
    for kind in all_kinds(6) + [BYTE, SMALL]:
        bits = kind.parts()[0]
        for polynomial in long_polynomials(bits) + (short_polynomials(2 ** bits) if bits <= 2 else []):
            yield kind, polynomial, all_roots(kind, polynomial)


def rows_for(bits):
    """Lists of 1 to 8 polynomials, with some of them several times."""
    found = long_polynomials(bits)
    rows = [found[place:place + 1 + place % 8] for place in range(0, len(found), 3)]
    rows += [[found[place % len(found)] for place in range(start, start + 400, 57)] for start in range(0, 60, 7)]
    rows += [[SQUARE] * i for i in range(1, 9)] + [[SQUARE, [0], SQUARE, [1], SQUARE, [0, 0, 1], [0, 1], [0]]]
    rows += [[[0] * i + [1] for i in range(1, 9)], [[0, 2 ** i] for i in range(8)], [[i, 1] for i in range(8)]]
    return rows + [[product(range(i)) for i in range(1, 9)], [product(range(i), 2 ** i) for i in range(1, 8)]]


class SmallKindsTest(unittest.TestCase):

    def test_roots_within(self):
        for kind, polynomial, wanted in small_cases():
            many = 40 if kind.parts()[0] <= 4 else 9
            for first in shares(values(kind), many):
                for last in shares(values(kind), many):
                    total = sum(1 for x in wanted if first <= x <= last)
                    self.assertEqual(roots_within(kind, polynomial, first, last), total, (kind.parts(), polynomial))

    def test_root_at(self):
        for kind, polynomial, wanted in small_cases():
            for j in shares(range(len(wanted)), 9):
                self.assertEqual(root_at(kind, polynomial, j), wanted[j], (kind.parts(), polynomial, j))
            for j in (-1, len(wanted)):
                check_bound(self, root_at, {"kind": kind, "polynomial": polynomial, "j": j}, "j")

    def test_root_above_and_below(self):
        for kind, polynomial, wanted in small_cases():
            for x in shares(values(kind), 17):
                place = (kind.parts(), polynomial, x)
                above = min((root for root in wanted if root > x), default=None)
                below = max((root for root in wanted if root < x), default=None)
                self.assertEqual(root_above(kind, polynomial, x), above, place)
                self.assertEqual(root_below(kind, polynomial, x), below, place)

    def test_common_roots_and_counts(self):
        for kind in all_kinds(6) + [BYTE, SMALL]:
            for polynomials in rows_for(kind.parts()[0]):
                found = [all_roots(kind, polynomial) for polynomial in polynomials]
                many = {x: sum(x in row for row in found) for x in values(kind)}
                place = (kind.parts(), polynomials)
                shared = [x for x in values(kind) if many[x] == len(polynomials)]
                self.assertEqual(common_roots(kind, polynomials), families_of(kind, shared), place)
                counts = [list(many.values()).count(i) for i in range(len(polynomials) + 1)]
                self.assertEqual(root_counts(kind, polynomials), counts, place)

    def test_examples(self):
        self.assertEqual(roots_within(SMALL, SQUARE, -127, 0), 2)
        self.assertEqual(roots_within(BYTE, [0, 0, 1], 1, 100), 6)
        self.assertEqual((root_at(SMALL, SQUARE, 0), root_at(BYTE, SQUARE, 3)), (-127, 255))
        self.assertEqual((root_above(SMALL, SQUARE, 1), root_below(SMALL, SQUARE, -127)), (127, None))
        self.assertEqual(common_roots(BYTE, [SQUARE, [1, 1]]), [(255, 8)])
        self.assertEqual(common_roots(BYTE, [[0, 0, 1], [0, 32]]), [(0, 4)])
        self.assertEqual(root_counts(BYTE, [[0, 0, 1], [0, 32]]), [224, 16, 16])

    def test_arguments_by_name(self):
        named = {"polynomial": SQUARE, "kind": SMALL}
        self.assertEqual(roots_within(last=0, first=-127, **named), 2)
        self.assertEqual((root_at(j=0, **named), root_above(x=1, **named), root_below(x=1, **named)), (-127, 127, -1))
        self.assertEqual(common_roots(polynomials=[SQUARE, [1, 1]], kind=BYTE), [(255, 8)])
        self.assertEqual(root_counts(polynomials=[SQUARE], kind=BYTE), [252, 4])

    def test_roots_of_signed_kinds_begin_below_zero(self):
        self.assertEqual([root_at(SMALL, SQUARE, j) for j in range(4)], [-127, -1, 1, 127])
        self.assertEqual([root_at(BYTE, SQUARE, j) for j in range(4)], [1, 127, 129, 255])
        self.assertEqual([root_at(SMALL, [0], j) for j in (0, 128, 255)], [-128, 0, 127])

    def test_both_ends_count(self):
        self.assertEqual(roots_within(SMALL, SQUARE, -127, 127), 4)
        self.assertEqual(roots_within(SMALL, SQUARE, -126, 126), 2)
        self.assertEqual(roots_within(SMALL, SQUARE, -1, -1), 1)
        self.assertEqual(roots_within(BYTE, [0], 0, 255), 256)
        self.assertEqual(roots_within(SMALL, [0], -128, 127), 256)

    def test_last_less_than_first(self):
        for polynomial in (SQUARE, [0], [0, 0, 1], [1]):
            for first, last in ((1, 0), (127, -128), (-1, -128), (127, 126)):
                self.assertEqual(roots_within(SMALL, polynomial, first, last), 0)

    def test_a_polynomial_twice_counts_twice(self):
        self.assertEqual(root_counts(BYTE, [SQUARE, SQUARE]), [252, 0, 4])
        self.assertEqual(root_counts(BYTE, [SQUARE, [1, 1], SQUARE]), [252, 0, 3, 1])
        self.assertEqual(root_counts(BYTE, [[0]] * 8), [0] * 8 + [256])
        self.assertEqual(root_counts(BYTE, [[1]] * 8), [256] + [0] * 8)


class WideKindsTest(unittest.TestCase):

    def test_multiples(self):
        for kind in WIDE_KINDS:
            bits = kind.parts()[0]
            low, high = bounds(kind)
            for i in range(1, 9):
                power, step = [0] * i + [1], 2 ** -(-bits // i)
                for first, last in ((low, high), (0, 10 ** 15), (low // 3 + 1, high // 3), (step, step), (1, step - 1)):
                    last = min(last, high)
                    if first <= high:
                        self.assertEqual(roots_within(kind, power, first, last), last // step - (first - 1) // step)
                total = 2 ** bits // step
                self.assertEqual(root_total(kind, power), total)
                for j in sorted({0, total // 3, total - 1}):
                    self.assertEqual(root_at(kind, power, j), -(-low // step) * step + j * step)
                for x in (low, 0, high // 5):
                    above = (x // step + 1) * step
                    self.assertEqual(root_above(kind, power, x), above if above <= high else None)
                    below = -(-x // step) * step - step
                    self.assertEqual(root_below(kind, power, x), below if below >= low else None)
                self.assertIsNone(root_below(kind, power, low))
                self.assertIsNone(root_above(kind, power, high))

    def test_squares(self):
        for kind in WIDE_KINDS:
            low, high = bounds(kind)
            half = (high - low + 1) // 2
            wanted = sorted(wrap(kind, x) for x in (3, -3, half + 3, half - 3))
            square = [-9, 0, 1]
            self.assertEqual([root_at(kind, square, j) for j in range(4)], wanted)
            self.assertEqual(roots_within(kind, square, low, high), 4)
            for place, x in enumerate(wanted):
                self.assertEqual(roots_within(kind, square, low, x), place + 1)
                self.assertEqual(roots_within(kind, square, x, high), 4 - place)
                self.assertEqual(root_above(kind, square, x), wanted[place + 1] if place < 3 else None)
                self.assertEqual(root_below(kind, square, x), wanted[place - 1] if place else None)
                self.assertEqual(root_above(kind, square, x - 1), x)
                self.assertEqual(root_below(kind, square, x + 1), x)
            for j in (4, -1, 2 ** 128):
                check_bound(self, root_at, {"kind": kind, "polynomial": square, "j": j}, "j")

    def test_parts_add_up_and_number_j_has_j_ahead(self):
        for kind in WIDE_KINDS:
            low, high = bounds(kind)
            for polynomial in mixed_polynomials(27) + [product(range(8)), product([3] * 4 + [8] * 4, 2 ** 9), [0], [1]]:
                total = root_total(kind, polynomial)
                self.assertEqual(roots_within(kind, polynomial, low, high), total)
                for middle in (low, -1 if low else 9, 10 ** 9, high // 2, high - 1):
                    parts = roots_within(kind, polynomial, low, middle)
                    self.assertEqual(parts + roots_within(kind, polynomial, middle + 1, high), total)
                for j in sorted({0, total // 3, total - 1}) if total else ():
                    x = root_at(kind, polynomial, j)
                    self.assertEqual(roots_within(kind, polynomial, low, x), j + 1)
                    self.assertEqual(roots_within(kind, polynomial, x, x), 1)
                    if j + 1 < total:
                        self.assertEqual(root_above(kind, polynomial, x), root_at(kind, polynomial, j + 1))
                    if j:
                        self.assertEqual(root_below(kind, polynomial, x), root_at(kind, polynomial, j - 1))

    def test_common_roots(self):
        for kind in WIDE_KINDS:
            bits = kind.parts()[0]
            self.assertEqual(common_roots(kind, [[0] * i + [1] for i in range(1, 9)]), [(0, bits)])
            self.assertEqual(common_roots(kind, [[0] * i + [1] for i in range(3, 9)]), [(0, -(-bits // 3))])
            self.assertEqual(common_roots(kind, [[0, 2 ** i] for i in range(5, 13)]), [(0, bits - 5)])
            self.assertEqual(common_roots(kind, [product([3, 5]), product([8, 5])]), [(5, bits)])
            self.assertEqual(common_roots(kind, [[-9, 0, 1], [-3, 1]]), [(3, bits)])
            self.assertEqual(common_roots(kind, [[-9, 0, 1], [-49, 0, 1]]), [])
            self.assertEqual(common_roots(kind, [[0], [2 ** bits], [0] * 9]), [(0, 0)])
            self.assertEqual(common_roots(kind, [[0], [-9, 0, 1], [0]]), roots(kind, [-9, 0, 1]))

    def test_root_counts(self):
        for kind in WIDE_KINDS:
            bits = kind.parts()[0]
            size = 2 ** bits
            # The multiples of 2 ** (bits - i), for i from 1 to 8.
            counts = root_counts(kind, [[0, 2 ** i] for i in range(1, 9)])
            self.assertEqual(counts, [size - 256] + [2 ** i for i in range(7, 0, -1)] + [2])
            counts = root_counts(kind, [[-9, 0, 1], [-3, 1], [3, 1], [0], [0], [1], [-3, 1], [-9, 0, 1]])
            self.assertEqual(counts, [0, 0, size - 4, 0, 2, 1, 1, 0, 0])
            for start in range(0, 40, 5):
                polynomials = mixed_polynomials(60)[start:start + 8]
                counts = root_counts(kind, polynomials)
                self.assertEqual((len(counts), sum(counts)), (9, size))
                totals = sum(root_total(kind, polynomial) for polynomial in polynomials)
                self.assertEqual(sum(i * count for i, count in enumerate(counts)), totals)
                shared = sum(2 ** (bits - k) for _, k in common_roots(kind, polynomials))
                self.assertEqual(counts[8], shared)


class CallsTest(unittest.TestCase):

    def test_arguments_are_not_changed(self):
        for polynomial in ([-1, 0, 1], [0] * 9, [LONGEST, -LONGEST, 2]):
            polynomials = [polynomial, [1, 1], polynomial]
            kept = copy.deepcopy(polynomials)
            common_roots(BYTE, polynomials)
            root_counts(BYTE, polynomials)
            roots_within(BYTE, polynomial, 3, 99)
            root_above(BYTE, polynomial, 3)
            root_below(BYTE, polynomial, 3)
            self.assertEqual(polynomials, kept)
            self.assertIs(polynomials[0], polynomial)
            self.assertIs(polynomials[2], polynomial)

    def test_lists_are_new_each_time(self):
        for polynomials in ([[0]], [SQUARE, [1, 1]], [[1]]):
            for function in (common_roots, root_counts):
                found = function(BYTE, polynomials)
                self.assertIs(type(found), list)
                kept = list(found)
                found.append(1)
                self.assertEqual(function(BYTE, polynomials), kept)

    def test_equal_calls_have_equal_results(self):
        self.assertEqual(common_roots(Kind(8, False), [[-1, 0, 1]]), common_roots(BYTE, [SQUARE]))


class WrongArgumentsTest(unittest.TestCase):

    def test_roots_within(self):
        for kind in (BYTE, SMALL, Kind(1, True), Kind(128, True)):
            low, high = bounds(kind)
            right = {"kind": kind, "polynomial": SQUARE, "first": high, "last": low}
            check_bounds(self, roots_within, right, {
                "kind": no_kinds(), "polynomial": not_polynomials(),
                "first": not_values(kind), "last": not_values(kind),
            })

    def test_root_at(self):
        for kind in (BYTE, SMALL):
            right = {"kind": kind, "polynomial": SQUARE, "j": 3}
            check_bounds(self, root_at, right, {
                "kind": no_kinds(), "polynomial": not_polynomials(), "j": no_numbers(4) + [HUGE],
            })
            for j in no_numbers(0) + [0, 1]:
                check_bound(self, root_at, {**right, "polynomial": [1], "j": j}, "j")

    def test_root_above_and_below(self):
        for function in (root_above, root_below):
            for kind in (BYTE, SMALL, Kind(1, False), Kind(128, True)):
                for x in bounds(kind):
                    right = {"kind": kind, "polynomial": SQUARE, "x": x}
                    check_bounds(self, function, right, {
                        "kind": no_kinds(), "polynomial": not_polynomials(), "x": not_values(kind),
                    })

    def test_lists_of_polynomials(self):
        for function in (common_roots, root_counts):
            right = {"kind": SMALL, "polynomials": [SQUARE] * 8}
            check_bounds(self, function, right, {"kind": no_kinds(), "polynomials": not_lists_of_polynomials()})
            for row in ([TOO_LONG], [-TOO_LONG], [0] * 10, []):
                check_bound(self, function, {"kind": BYTE, "polynomials": [SQUARE] * 7 + [row]}, "polynomials")


if __name__ == "__main__":
    unittest.main()
