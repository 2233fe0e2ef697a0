"""Polynomials as functions: points 46 to 49, against trying all values, and by what must fit together."""

import copy
import unittest
from math import comb, factorial, perm

from farwrap.alike import (
    are_alike, argument_of, first_unlike, normal_form, of_form, permutes, unlike_at, unlike_total,
)
from farwrap.kinds import Kind
from farwrap.ranges import roots_within
from farwrap.roots import value_at
from tests.polynomials import LONGEST, exact_value, long_polynomials, mixed_polynomials, product, short_polynomials
from tests.samples import BYTE, HUGE, SMALL, TOO_LONG, WIDE_KINDS, all_kinds, bounds, shares, twos_in, values, wrap
from tests.wrong import check_bound, check_bounds, no_kinds, no_numbers, not_forms, not_polynomials, not_values


def table(kind, polynomial):
    size = 2 ** kind.parts()[0]
    return [exact_value(polynomial, x) % size for x in values(kind)]


def zeros_for(bits):
    """Polynomials that are 0 everywhere, modulo 2 ** bits."""
    found = [[0], [0] * 9, [2 ** bits], [0, -2 ** bits, 2 ** (bits + 3)]]
    for k in range(1, 9):
        found.append(product(range(k), 2 ** max(0, bits - twos_in(factorial(k), 99))))
    return found


def plus(one, other):
    """The sum of two polynomials, less what is a multiple of all sizes where it would have too many digits."""
    longer = max(len(one), len(other))
    sums = [c + d for c, d in zip(one + [0] * (longer - len(one)), other + [0] * (longer - len(other)))]
    return [c if abs(c) < TOO_LONG else c - 2 ** 190 if c > 0 else c + 2 ** 190 for c in sums]


def small_cases():
    for kind in all_kinds(6) + [BYTE, SMALL]:
        bits = kind.parts()[0]
        found = long_polynomials(bits)
        for place, one in enumerate(shares(found, 60)):
            yield kind, one, plus(one, zeros_for(bits)[place % 12])
            yield kind, one, found[place * 7 % len(found)]
            yield kind, one, plus(one, [2 ** (bits - 1), 0, place])
    for kind in (Kind(1, False), Kind(2, True)):
        for one in shares(short_polynomials(2), 30):
            for other in short_polynomials(2):
                yield kind, one, other


class SmallKindsTest(unittest.TestCase):

    def test_alike(self):
        for kind, one, other in small_cases():
            same = table(kind, one) == table(kind, other)
            place = (kind.parts(), one, other)
            self.assertIs(are_alike(kind, one, other), same, place)
            size = 2 ** kind.parts()[0]
            least = next((x for x in range(size + 9) if (exact_value(one, x) - exact_value(other, x)) % size), None)
            self.assertEqual(first_unlike(kind, one, other), least, place)
            self.assertLess(-1 if least is None else least, max(len(one), len(other)))
            self.assertIs(normal_form(kind, one) == normal_form(kind, other), same, place)

    def test_unlike_values(self):
        for kind, one, other in small_cases():
            pairs = zip(values(kind), table(kind, one), table(kind, other))
            apart = [x for x, y, z in pairs if y != z]
            for first in shares(values(kind), 4):
                for last in shares(values(kind), 5):
                    found = [x for x in apart if first <= x <= last]
                    place = (kind.parts(), one, other, first, last)
                    self.assertEqual(unlike_total(kind, one, other, first, last), len(found), place)
                    for j in shares(range(len(found)), 2):
                        self.assertEqual(unlike_at(kind, one, other, first, last, j), found[j], place)

    def test_normal_forms(self):
        for kind, one, _ in small_cases():
            bits = kind.parts()[0]
            form = normal_form(kind, one)
            self.assertLessEqual(len(form), len(one))
            self.assertNotEqual(form[-1:], [0])
            # The function of a form: a sum of c times x * (x - 1) * ... * (x - k + 1).
            for x in range(12):
                self.assertEqual((sum(c * perm(x, k) for k, c in enumerate(form)) - exact_value(one, x)) % 2 ** bits, 0)
            for k, c in enumerate(form):
                self.assertTrue(0 <= c < 2 ** max(0, bits - twos_in(factorial(k), 99)), (kind.parts(), one))
            self.assertTrue(are_alike(kind, one, of_form(form)))
            self.assertEqual(normal_form(kind, of_form(form)), form)

    def test_permutations(self):
        for kind in all_kinds(6) + [BYTE, SMALL]:
            bits = kind.parts()[0]
            odd = [plus([c, 1], [0] + [d % 2 * e for d, e in zip((place, place // 2, 7, place // 3), (4, 2, 2, 6))])
                   for place, c in enumerate(range(-9, 9))]
            for polynomial in shares(long_polynomials(bits), 90) + odd + (short_polynomials(4) if bits <= 3 else []):
                found = table(kind, polynomial)
                permuting = len(set(found)) == 2 ** bits
                self.assertIs(permutes(kind, polynomial), permuting, (kind.parts(), polynomial))
                if permuting:
                    for y in shares(values(kind), 9):
                        x = argument_of(kind, polynomial, y)
                        self.assertEqual(x, values(kind)[found.index(y % 2 ** bits)])
                else:
                    check_bound(self, argument_of, {"kind": kind, "polynomial": polynomial, "y": 0}, "polynomial")

    def test_all_parities_of_coefficients(self):
        for kind in (Kind(1, True), Kind(2, False), Kind(3, True)):
            for number in range(2 ** 9):
                polynomial = [number >> i & 1 for i in range(9)]
                permuting = len(set(table(kind, polynomial))) == 2 ** kind.parts()[0]
                self.assertIs(permutes(kind, polynomial), permuting, (kind.parts(), polynomial))

    def test_the_fact_of_point_49(self):
        for kind in all_kinds(4)[2:]:
            for polynomial in short_polynomials(3) + shares(long_polynomials(4), 60) + mixed_polynomials(60):
                odd = len(polynomial) > 1 and polynomial[1] % 2 == 1
                told = odd and sum(polynomial[3::2]) % 2 == 0 and sum(polynomial[2::2]) % 2 == 0
                self.assertIs(permutes(kind, polynomial), told)


class FormsTest(unittest.TestCase):

    FORMS = [
        [], [0], [5], [0, 0, 0], [0, 1, 1], [1] * 9, [LONGEST] * 9, [-LONGEST, 3, -7, LONGEST, 0, 0, 0],
        [0, 0, 0, 0, 0, 0, 0, 0, 1], [3, -3], [0, 5, -5, 5, -5, 1],
    ]

    def test_polynomials_of_forms(self):
        for form in self.FORMS + [row[:1 + i % 9] for i, row in enumerate(mixed_polynomials(40))]:
            polynomial = of_form(form)
            self.assertTrue(polynomial == [0] or polynomial[-1] != 0)
            for x in range(15):
                self.assertEqual(exact_value(polynomial, x), sum(c * perm(x, k) for k, c in enumerate(form)))
            for x in (-1, -7):
                # The product of k factors from x < 0 down is that of those from -x up, k times negated.
                terms = [c * (-1) ** k * factorial(k) * comb(k - x - 1, k) for k, c in enumerate(form)]
                self.assertEqual(exact_value(polynomial, x), sum(terms))

    def test_no_zeros_at_the_end(self):
        self.assertEqual(of_form([]), [0])
        self.assertEqual(of_form([0] * 9), [0])
        self.assertEqual(of_form([4, 0, 0]), [4])
        self.assertEqual(of_form([0, 0, 1, 0]), [0, -1, 1])
        for kind in (BYTE, SMALL, *WIDE_KINDS):
            self.assertEqual(normal_form(kind, [0] * 9), [])
            self.assertEqual(normal_form(kind, [7, 0, 0]), [7])
            self.assertEqual(normal_form(kind, [2 ** 128]), [])
            self.assertEqual(normal_form(kind, [-1]), [2 ** kind.parts()[0] - 1])

    def test_exact_coefficients(self):
        self.assertEqual(of_form([0, 1, 1]), [0, 0, 1])
        self.assertEqual(of_form([0, 0, 0, 1]), [0, 2, -3, 1])
        self.assertEqual(of_form([0] * 8 + [LONGEST])[8], LONGEST)
        self.assertEqual(of_form([0] * 8 + [LONGEST])[1], -5040 * LONGEST)

    def test_narrow_kinds_have_short_forms(self):
        # 2 divides the product of two integers in a row once, that of four of them three times.
        self.assertEqual(normal_form(Kind(1, False), [0, 0, 0, 1, 1, 1]), [0, 1])
        self.assertEqual(normal_form(Kind(3, True), [0] * 4 + [1]), [0, 1, 3, 2])
        self.assertEqual(normal_form(Kind(2, False), [0] * 8 + [1]), [0, 1, 1])


class EdgesTest(unittest.TestCase):

    def test_examples(self):
        self.assertIs(are_alike(BYTE, [0, 128, 128], [0]), True)
        self.assertEqual(first_unlike(BYTE, [0, 1], [0, 0, 1]), 2)
        self.assertEqual(unlike_total(BYTE, [0, 1], [0, 0, 1], 0, 255), 254)
        self.assertEqual(unlike_at(SMALL, [0, 1], [0, 0, 1], -1, 9, 1), 2)
        self.assertEqual(normal_form(BYTE, [0, 128, 128]), [])
        self.assertEqual(normal_form(BYTE, [0, 0, 1]), [0, 1, 1])
        self.assertIs(permutes(BYTE, [0, 1, 2]), True)
        self.assertIs(permutes(BYTE, [0, 1, 1]), False)
        self.assertEqual(argument_of(BYTE, [0, 1, 2], 10), 2)

    def test_arguments_by_name(self):
        named = {"other": [0, 0, 1], "one": [0, 1], "kind": BYTE}
        self.assertEqual((are_alike(**named), first_unlike(**named)), (False, 2))
        self.assertEqual((unlike_total(last=9, first=0, **named), unlike_at(j=0, last=9, first=0, **named)), (8, 2))
        self.assertEqual((normal_form(polynomial=[0, 0, 1], kind=BYTE), of_form(form=[0, 1, 1])), ([0, 1, 1], [0, 0, 1]))
        self.assertEqual((permutes(polynomial=[0, 1], kind=BYTE), argument_of(y=9, polynomial=[0, 1], kind=BYTE)), (True, 9))

    def test_trailing_zeros(self):
        for kind in (BYTE, *WIDE_KINDS):
            self.assertIs(are_alike(kind, [3, 1], [3, 1] + [0] * 7), True)
            self.assertIs(permutes(kind, [0, 1] + [0] * 7), True)
            self.assertIs(permutes(kind, [1] + [0] * 8), False)

    def test_kinds_of_one_bit(self):
        for kind in (Kind(1, False), Kind(1, True)):
            for polynomial, permuting in (([0, 1], True), ([0, 0, 1], True), ([5, 1, 1, 1], True), ([0, 1, 1], False), ([1], False)):
                self.assertIs(permutes(kind, polynomial), permuting)
            one = wrap(kind, 1)
            self.assertEqual([argument_of(kind, [1, 0, 1], y) for y in (0, one)], [one, 0])

    def test_last_less_than_first(self):
        for kind in (BYTE, SMALL, *WIDE_KINDS):
            low, high = bounds(kind)
            for first, last in ((high, low), (1, 0), (high, high - 1)):
                self.assertEqual(unlike_total(kind, [0, 1], [5], first, last), 0)
                right = {"kind": kind, "one": [0, 1], "other": [5], "first": first, "last": last, "j": 0}
                check_bound(self, unlike_at, right, "j")

    def test_an_argument_of_an_argument_that_does_not_permute(self):
        for y in (None, True, 300, [], 0):
            check_bound(self, argument_of, {"kind": BYTE, "polynomial": [0, 2], "y": y}, "polynomial")


class WideKindsTest(unittest.TestCase):

    def test_alike_polynomials_have_the_same_normal_form(self):
        for kind in WIDE_KINDS:
            bits = kind.parts()[0]
            for place, one in enumerate(mixed_polynomials(40) + [[LONGEST // 2] * 9, [-LONGEST // 2, LONGEST // 2]]):
                form = normal_form(kind, one)
                for zero in zeros_for(bits):
                    other = plus(one, zero)
                    self.assertIs(are_alike(kind, one, other), True)
                    self.assertIsNone(first_unlike(kind, one, other))
                    self.assertEqual(normal_form(kind, other), form)
                    self.assertEqual(unlike_total(kind, one, other, *bounds(kind)), 0)
                self.assertEqual(normal_form(kind, of_form(form)), form)
                self.assertIs(are_alike(kind, one, of_form(form)), True)
                for x in (0, 5, bounds(kind)[0], 10 ** 18 + place):
                    self.assertEqual(value_at(kind, of_form(form), x), value_at(kind, one, x))

    def test_half_of_a_zero_is_none(self):
        for kind in WIDE_KINDS:
            bits = kind.parts()[0]
            low, high = bounds(kind)
            for k in range(1, 9):
                half = product(range(k), 2 ** (bits - twos_in(factorial(k), 99) - 1))
                self.assertIs(are_alike(kind, half, [0]), False)
                self.assertEqual(first_unlike(kind, half, [0]), k)
                self.assertEqual(len(normal_form(kind, half)), k + 1)
                total = unlike_total(kind, half, [0], low, high)
                self.assertEqual(total, 2 ** bits - roots_within(kind, half, low, high))
                self.assertGreater(total, 0)
                self.assertEqual(unlike_at(kind, half, [0], 0, high, 0), k)

    def test_number_j_has_j_ahead(self):
        for kind in WIDE_KINDS:
            bits = kind.parts()[0]
            low, high = bounds(kind)
            for one, other in (([0, 1], [0, 0, 1]), ([0, 2 ** (bits - 3)], [0]), ([5], [5, 0, 2 ** (bits - 20)]), ([1], [0])):
                for first, last in ((low, high), (low + 5, high // 3), (0, 10 ** 15)):
                    total = unlike_total(kind, one, other, first, last)
                    for j in {0, 1, total // 3, total - 1}:
                        x = unlike_at(kind, one, other, first, last, j)
                        self.assertNotEqual(value_at(kind, one, x), value_at(kind, other, x))
                        self.assertEqual(unlike_total(kind, one, other, first, x), j + 1)
                    right = {"kind": kind, "one": one, "other": other, "first": first, "last": last, "j": total}
                    check_bound(self, unlike_at, right, "j")

    def test_arguments_lead_to_their_values(self):
        for kind in WIDE_KINDS:
            low, high = bounds(kind)
            for polynomial in ([0, 1], [-5, -3], [7, 1, 2], [LONGEST, 3, 4, 2, 6], [0, 1] + [2] * 7, [1, 5, 3, 9, 1, 1, 2, 0, 0]):
                self.assertIs(permutes(kind, polynomial), True)
                for y in (low, high, 0, 1, high // 3, high - 12345):
                    x = argument_of(kind, polynomial, y)
                    self.assertTrue(low <= x <= high)
                    self.assertEqual(value_at(kind, polynomial, x), y)
            for polynomial in ([0, 2], [1], [0, 1, 1], [0, 1, 0, 1], [LONGEST, LONGEST - 1, 0, 2]):
                self.assertIs(permutes(kind, polynomial), False)


class CallsTest(unittest.TestCase):

    def test_arguments_are_not_changed(self):
        for one in ([-1, 1, 2], [0, 1] + [0] * 7, [LONGEST, 1, 2]):
            other = [5] + one[1:]
            kept = copy.deepcopy((one, other))
            are_alike(BYTE, one, other)
            first_unlike(BYTE, one, other)
            unlike_total(BYTE, one, other, 0, 9)
            unlike_at(BYTE, one, other, 0, 9, 0)
            normal_form(BYTE, one)
            of_form(one)
            argument_of(BYTE, one, 9)
            self.assertEqual((one, other), kept)

    def test_lists_are_new_each_time(self):
        form = [0, 1, 1]
        for call in (lambda: normal_form(BYTE, form), lambda: of_form(form), lambda: of_form([]), lambda: normal_form(BYTE, [0])):
            found = call()
            self.assertIs(type(found), list)
            kept = list(found)
            found.append(1)
            self.assertEqual(call(), kept)
        self.assertEqual(form, [0, 1, 1])


class WrongArgumentsTest(unittest.TestCase):

    def wrong(self):
        return {"kind": no_kinds(), "one": not_polynomials(), "other": not_polynomials()}

    def test_two_polynomials(self):
        right = {"kind": SMALL, "one": [0, 1], "other": [0, 0, 1]}
        for function in (are_alike, first_unlike):
            check_bounds(self, function, right, self.wrong())

    def test_ranges(self):
        wrong = {**self.wrong(), "first": not_values(SMALL), "last": not_values(SMALL)}
        right = {"kind": SMALL, "one": [0, 1], "other": [0, 0, 1], "first": -1, "last": 9}
        check_bounds(self, unlike_total, right, wrong)
        check_bounds(self, unlike_at, {**right, "j": 8}, {**wrong, "j": no_numbers(9) + [HUGE]})
        for j in no_numbers(0) + [0, 1]:
            check_bound(self, unlike_at, {**right, "other": [0, 1], "j": j}, "j")

    def test_one_polynomial(self):
        for function in (normal_form, permutes):
            right = {"kind": SMALL, "polynomial": [0, 1]}
            check_bounds(self, function, right, {"kind": no_kinds(), "polynomial": not_polynomials()})
        for kind in (SMALL, Kind(1, True), Kind(128, False)):
            right = {"kind": kind, "polynomial": [0, 1], "y": 0}
            wrong = {"kind": no_kinds(), "polynomial": not_polynomials() + [[0, 2], [1]], "y": not_values(kind)}
            check_bounds(self, argument_of, right, wrong)

    def test_forms(self):
        for form in ([], [0, 1, 1], [1 - TOO_LONG, TOO_LONG - 1] + [0] * 7):
            check_bounds(self, of_form, {"form": form}, {"form": not_forms()})


if __name__ == "__main__":
    unittest.main()
