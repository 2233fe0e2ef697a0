"""Polynomials and their roots: points 21 to 24, against trying all values, and by formulas."""

import unittest

from farwrap.kinds import Kind
from farwrap.roots import least_twos, lift, most_twos, root_total, roots, value_at
from tests.polynomials import (
    LONGEST, all_roots, exact_value, families_of, family_bound, long_polynomials, mixed_polynomials, product, residues,
    short_polynomials,
)
from tests.samples import BYTE, HUGE, SMALL, TOO_LONG, WIDE_KINDS, all_kinds, bounds, shares, twos_in, wrap
from tests.wrong import check_bound, check_bounds, no_integers, no_kinds, not_polynomials

SQUARE = [-1, 0, 1]
BYTES = [BYTE, SMALL]


def small_cases():
    for kind in all_kinds(6) + BYTES:
        bits = kind.parts()[0]
        short = short_polynomials(2 ** bits) if bits <= 3 else []
        for polynomial in short + long_polynomials(bits):
            yield kind, polynomial


class ValueTest(unittest.TestCase):

    def test_small_kinds(self):
        for kind, polynomial in small_cases():
            for x in (-9, -1, 0, 1, 2, 7, 100):
                self.assertEqual(value_at(kind, polynomial, x), wrap(kind, exact_value(polynomial, x)))

    def test_wide_kinds_and_large_integers(self):
        for kind in WIDE_KINDS:
            for polynomial in mixed_polynomials(18) + [[LONGEST] * 9, [-LONGEST] * 9]:
                for x in (LONGEST, -LONGEST, 2 ** 128 - 1, HUGE, -HUGE, HUGE * 9 + 7):
                    self.assertEqual(value_at(kind, polynomial, x), wrap(kind, exact_value(polynomial, x)))

    def test_examples(self):
        self.assertEqual(value_at(SMALL, [3, 0, 1], 11), 124)
        self.assertEqual(value_at(x=11, polynomial=[3, 0, 1], kind=SMALL), 124)

    def test_wrong_arguments(self):
        for kind in (BYTE, SMALL, Kind(128, True)):
            right = {"kind": kind, "polynomial": SQUARE, "x": 3}
            check_bounds(self, value_at, right, {"kind": no_kinds(), "polynomial": not_polynomials(), "x": no_integers()})


class SmallKindsTest(unittest.TestCase):

    def test_roots(self):
        for kind, polynomial in small_cases():
            wanted = all_roots(kind, polynomial)
            self.assertEqual(roots(kind, polynomial), families_of(kind, wanted), (kind.parts(), polynomial))
            self.assertEqual(root_total(kind, polynomial), len(wanted), (kind.parts(), polynomial))

    def test_there_are_few_families(self):
        for kind, polynomial in small_cases():
            found = roots(kind, polynomial)
            if found != [(0, 0)]:
                self.assertLessEqual(len(found), family_bound(polynomial), (kind.parts(), polynomial))

    def test_lift(self):
        for kind in all_kinds(5) + BYTES:
            bits = kind.parts()[0]
            for polynomial in long_polynomials(bits) + (short_polynomials(4) if bits < 4 else []):
                self.check_lifts(kind, bits, polynomial, all_roots(kind, polynomial))

    def check_lifts(self, kind, bits, polynomial, wanted):
        for k in range(bits + 1):
            for first in shares(range(2 ** k), 8):
                counts = [0, 0]
                for x in wanted:
                    if (x - first) % 2 ** k == 0:
                        counts[0 if k == bits else (x - first) // 2 ** k % 2] += 1
                self.assertEqual(lift(kind, polynomial, first, k), tuple(counts), (kind.parts(), polynomial, first, k))

    def test_twos(self):
        for kind, polynomial in small_cases():
            bits = kind.parts()[0]
            counts = [twos_in(exact_value(polynomial, x), bits) for x in range(2 ** bits)]
            place = (kind.parts(), polynomial)
            self.assertEqual(least_twos(kind, polynomial), min(counts), place)
            self.assertEqual(most_twos(kind, polynomial), (max(counts), counts.index(max(counts))), place)

    def test_examples(self):
        self.assertEqual(root_total(BYTE, SQUARE), 4)
        self.assertEqual(roots(BYTE, [256]), [(0, 0)])
        self.assertEqual(roots(BYTE, [0, 0, 1]), [(0, 4)])
        self.assertEqual(roots(BYTE, SQUARE), [(1, 7), (127, 7)])
        self.assertEqual(lift(BYTE, SQUARE, 1, 1), (2, 2))
        self.assertEqual(least_twos(BYTE, [0, 1, 1]), 1)
        self.assertEqual(most_twos(BYTE, [3, 0, 1]), (2, 1))

    def test_arguments_by_name(self):
        named = {"polynomial": SQUARE, "kind": BYTE}
        self.assertEqual((root_total(**named), roots(**named)), (4, [(1, 7), (127, 7)]))
        self.assertEqual(lift(**named, k=1, first=1), (2, 2))
        self.assertEqual((least_twos(**named), most_twos(**named)), (0, (8, 1)))

    def test_trailing_zeros_change_nothing(self):
        for polynomial in (SQUARE, [0], [256], [0, 0, 1], [6, -5, 1]):
            longer = polynomial + [0] * (9 - len(polynomial))
            for function in (roots, root_total, least_twos, most_twos):
                self.assertEqual(function(BYTE, longer), function(BYTE, polynomial))

    def test_the_last_bit_of_lift(self):
        for x in range(256):
            self.assertEqual(lift(BYTE, SQUARE, x, 8), (1, 0) if x in (1, 127, 129, 255) else (0, 0))
            self.assertEqual(lift(SMALL, [256], x, 8), (1, 0))
        self.assertEqual(lift(Kind(1, True), [1, 1], 1, 1), (1, 0))
        self.assertEqual(lift(Kind(1, True), [1, 1], 0, 0), (0, 1))

    def test_signs_make_no_difference(self):
        for polynomial in long_polynomials(8):
            for function in (roots, root_total, least_twos, most_twos):
                self.assertEqual(function(BYTE, polynomial), function(SMALL, polynomial))

    def test_the_least_x_may_be_no_value_of_the_kind(self):
        self.assertEqual(most_twos(SMALL, [1, 1]), (8, 255))


class WideKindsTest(unittest.TestCase):

    def check(self, kind, polynomial, families):
        bits = kind.parts()[0]
        self.assertEqual(roots(kind, polynomial), sorted(families), (kind.parts(), polynomial))
        self.assertEqual(root_total(kind, polynomial), sum(2 ** (bits - k) for _, k in families))

    def test_powers(self):
        for kind in WIDE_KINDS + all_kinds():
            bits = kind.parts()[0]
            for i in range(1, 9):
                # 2 divides x ** i i times as often as x.
                self.check(kind, [0] * i + [1], [(0, -(-bits // i))])
                self.check(kind, [0] * i + [5 * 2 ** 7], [(0, max(0, -(-(bits - 7) // i)))])

    def test_moved_powers(self):
        for kind in WIDE_KINDS:
            bits = kind.parts()[0]
            for number in (3, -5, 11, 77):
                for i in range(1, 9):
                    k = -(-bits // i)
                    self.check(kind, product([number] * i), [(number % 2 ** k, k)])

    def test_squares(self):
        for kind in WIDE_KINDS:
            bits = kind.parts()[0]
            for odd in (1, 3, 5, 2 ** 25 + 7, 10 ** 14 + 1):
                for i in range(0, bits // 2 - 1):
                    if (odd * 2 ** i) ** 2 > LONGEST:
                        break
                    k = bits - i - 1
                    wanted = [(odd * 2 ** i % 2 ** k, k), (-odd * 2 ** i % 2 ** k, k)]
                    self.check(kind, [-((odd * 2 ** i) ** 2), 0, 1], wanted)

    def test_e07(self):
        self.check(Kind(128, True), [-2 ** 100, 0, 1], [(2 ** 50, 77), (2 ** 77 - 2 ** 50, 77)])

    def test_what_is_no_square(self):
        for kind in WIDE_KINDS:
            for number in (2, 3, 5, 6, 7, 8, 2 ** 51, 3 * 2 ** 40, 10 ** 20 + 3):
                self.check(kind, [-number, 0, 1], [])

    def test_products(self):
        for kind in WIDE_KINDS:
            bits = kind.parts()[0]
            for numbers in (
                [0, 1], [5, 8], [0, 1, 2, 3, 4, 5, 6, 7], [1, 2, 4, 8, 16, 32, 64, 128], [-3, 3], [-7, -5, -2, 0, 9, 100],
                [0, 2 ** 8, 2 ** 9], [1, 1 + 2 ** 5, 7], [3, 19, 35], [0, 64, 65, 129],
            ):
                families = []
                for number in numbers:
                    # Close to a number, the other factors are divided as the differences are.
                    others = [twos_in(number - other, 200) for other in numbers if other != number]
                    k = bits - sum(others)
                    self.assertGreater(k, max(others))
                    families.append((number % 2 ** k, k))
                self.check(kind, product(numbers), families)
                self.check(Kind(bits - 3, False), product(numbers, 8), [(f % 2 ** (k - 6), k - 6) for f, k in families])

    def test_numbers_that_occur_several_times(self):
        for kind in WIDE_KINDS:
            bits = kind.parts()[0]
            for one, two, i, j in ((0, 1, 4, 4), (3, 8, 2, 5), (-5, 100, 7, 1), (2, 77, 1, 6)):
                # One factor is odd where the other one is even.
                families = [(one % 2 ** -(-bits // i), -(-bits // i)), (two % 2 ** -(-bits // j), -(-bits // j))]
                self.check(kind, product([one] * i + [two] * j), families)

    def test_odd_lines_have_one_root(self):
        for kind in WIDE_KINDS:
            size = 2 ** kind.parts()[0]
            for a, b in ((1, 5), (3, 1), (-7, 10 ** 30), (10 ** 59 + 1, -(10 ** 59)), (LONGEST, LONGEST)):
                found = roots(kind, [b, a])
                self.assertEqual(len(found), 1)
                self.assertEqual(found[0][1], kind.parts()[0])
                self.assertEqual((a * found[0][0] + b) % size, 0)

    def test_even_lines(self):
        for kind in WIDE_KINDS:
            bits = kind.parts()[0]
            for i in (1, 7, 40, 63):
                self.check(kind, [3 * 2 ** i, 2 ** i], [(-3 % 2 ** (bits - i), bits - i)])
                self.check(kind, [2 ** (i - 1), 2 ** i], [])

    def test_all_values_and_none(self):
        for kind in WIDE_KINDS:
            bits = kind.parts()[0]
            # 2 divides the product of eight numbers in a row seven times.
            for polynomial in ([0], [0] * 9, [2 ** bits], [2 ** 130, -(2 ** 128)], product(range(8), 2 ** (bits - 7))):
                self.check(kind, polynomial, [(0, 0)])
                self.assertEqual(least_twos(kind, polynomial), bits)
                self.assertEqual(most_twos(kind, polynomial), (bits, 0))
                self.assertEqual(lift(kind, polynomial, 0, 0), (2 ** (bits - 1), 2 ** (bits - 1)))
                self.assertEqual(lift(kind, polynomial, 2 ** bits - 1, bits), (1, 0))
            for polynomial in ([1], [-1], [1, 2, 4, 6, 8, 10, 12, 14, 16], [2 ** (bits - 1)], [3, 1, 1], [1] + [2 ** 127] * 8):
                self.check(kind, polynomial, [])
                self.assertEqual(lift(kind, polynomial, 0, 0), (0, 0))
            self.check(kind, product(range(8), 2 ** (bits - 8)), residue_families(product(range(8)), 8))

    def test_the_families_are_as_described(self):
        for kind in WIDE_KINDS:
            bits = kind.parts()[0]
            for polynomial in mixed_polynomials(60) + long_polynomials(5):
                found = roots(kind, polynomial)
                self.assertEqual(found, sorted(found))
                if found != [(0, 0)]:
                    self.assertLessEqual(len(found), family_bound(polynomial))
                for place, (first, k) in enumerate(found):
                    self.assertTrue(0 <= k <= bits and 0 <= first < 2 ** k)
                    self.assertFalse(k and (first ^ 2 ** (k - 1), k) in found)
                    for t in (0, 1, 5, 2 ** (bits - k) - 1):
                        self.assertEqual(exact_value(polynomial, first + t * 2 ** k) % 2 ** bits, 0)
                    for other, i in found[:place]:
                        self.assertNotEqual((first - other) % 2 ** min(k, i), 0)

    def test_lift_goes_down_bit_by_bit(self):
        for kind in WIDE_KINDS:
            bits = kind.parts()[0]
            for polynomial in (SQUARE, product(range(8)), product([3] * 4 + [8] * 4), [0] * 8 + [1], [-2 ** 40, 0, 1]):
                total, first = root_total(kind, polynomial), 0
                for k in range(bits):
                    even, odd = lift(kind, polynomial, first, k)
                    self.assertEqual(even + odd, total)
                    total, first = (odd, first + 2 ** k) if odd > even else (even, first)
                self.assertEqual(total, 1)
                self.assertEqual(exact_value(polynomial, first) % 2 ** bits, 0)
                self.assertEqual(lift(kind, polynomial, first, bits), (1, 0))

    def test_twos(self):
        for kind in WIDE_KINDS:
            bits = kind.parts()[0]
            for i in range(1, 9):
                twos = sum(twos_in(number, 9) for number in range(1, i + 1))
                self.assertEqual(least_twos(kind, product(range(i))), twos)
                self.assertEqual(least_twos(kind, product(range(-50, i - 50), 2 ** 5)), twos + 5)
                self.assertEqual(most_twos(kind, product([9] * i)), (bits, 9 % 2 ** -(-bits // i)))
            self.assertEqual(most_twos(kind, [7, 0, 1]), (bits, roots(kind, [7, 0, 1])[0][0]))
            self.assertEqual(most_twos(kind, [-3, 0, 1]), (1, 1))
            self.assertEqual(most_twos(kind, [-5, 0, 1]), (2, 1))
            self.assertEqual(most_twos(kind, [-2 ** 41, 0, 1]), (41, 0))
            self.assertEqual(most_twos(kind, [-5 * 2 ** 40, 0, 1]), (42, 2 ** 20))
            self.assertEqual(most_twos(kind, [1, 2]), (0, 0))
            self.assertEqual(most_twos(kind, [10, 1]), (bits, 2 ** bits - 10))


def residue_families(polynomial, bits):
    kind = Kind(bits, False)
    return families_of(kind, all_roots(kind, polynomial))


class CallsTest(unittest.TestCase):

    def test_arguments_are_not_changed(self):
        for polynomial in ([-1, 0, 1], [0] * 9, [LONGEST, -LONGEST, 2], [256, 0, 0]):
            kept = list(polynomial)
            for function in (roots, root_total, least_twos, most_twos):
                function(BYTE, polynomial)
            value_at(BYTE, polynomial, 7)
            lift(BYTE, polynomial, 1, 3)
            self.assertEqual(polynomial, kept)

    def test_lists_are_new_each_time(self):
        for polynomial in ([256], SQUARE, [1]):
            found = roots(BYTE, polynomial)
            kept = list(found)
            found.append((0, 8))
            self.assertEqual(roots(BYTE, polynomial), kept)

    def test_results_are_tuples_of_integers(self):
        for family in roots(BYTE, SQUARE) + [lift(BYTE, SQUARE, 1, 1), most_twos(BYTE, SQUARE)]:
            self.assertIs(type(family), tuple)
            self.assertEqual([type(part) for part in family], [int, int])

    def test_equal_calls_have_equal_results(self):
        self.assertEqual(roots(Kind(8, False), [-1, 0, 1]), roots(BYTE, SQUARE))


class WrongArgumentsTest(unittest.TestCase):

    def test_functions_of_a_polynomial(self):
        for function in (roots, root_total, least_twos, most_twos):
            right = {"kind": BYTE, "polynomial": SQUARE}
            check_bounds(self, function, right, {"kind": no_kinds(), "polynomial": not_polynomials()})

    def test_lift(self):
        for kind in (BYTE, SMALL, Kind(1, True), Kind(128, True)):
            bits = kind.parts()[0]
            wrong = {"kind": no_kinds(), "polynomial": not_polynomials(), "first": no_integers() + [-1, HUGE, -HUGE]}
            # k is checked ahead of first.
            not_k = no_integers() + [-1, bits + 1, 2 ** bits, HUGE, -HUGE]
            for k in sorted({0, 1, bits}):
                right = {"kind": kind, "polynomial": SQUARE, "first": 2 ** k - 1, "k": k}
                check_bounds(self, lift, right, {**wrong, "first": wrong["first"] + [2 ** k, 2 ** (k + 1)]})
                for value in not_k:
                    check_bound(self, lift, {**right, "k": value}, "k")
                    check_bound(self, lift, {**right, "first": None, "k": value}, "k")
                    check_bound(self, lift, {**right, "first": HUGE, "k": value}, "k")
                    check_bound(self, lift, {**right, "polynomial": [], "k": value}, "polynomial")

    def test_nine_coefficients_of_sixty_digits_are_the_most(self):
        for sign in (1, -1):
            self.assertEqual(root_total(BYTE, [sign * (TOO_LONG - 1)] * 9), len(all_roots(BYTE, [-1] * 9)))
            for polynomial in ([sign * TOO_LONG], [0, sign * TOO_LONG], [0] * 8 + [sign * TOO_LONG], [0] * 10):
                check_bound(self, roots, {"kind": BYTE, "polynomial": polynomial}, "polynomial")


class HelpersTest(unittest.TestCase):

    def test_the_tests_own_families(self):
        for kind in all_kinds(4):
            bits = kind.parts()[0]
            for number in range(0, 2 ** 2 ** bits, 1 + 2 ** 2 ** bits // 200):
                low = bounds(kind)[0]
                wanted = [low + i for i in range(2 ** bits) if number >> i & 1]
                self.assertEqual(residues(kind, families_of(kind, wanted)), wanted)


if __name__ == "__main__":
    unittest.main()
