"""Plain integers: point 2 and the interface, and the helpers beside them."""

import math
import unittest
from fractions import Fraction

from farwrap.errors import InvalidBound
from farwrap.wholes import (
    check_count, check_number, factors_of_two, is_count, is_integer, is_sixty_digits, odd_inverse, toward_zero, twos_in,
)
from tests.samples import HUGE, TOO_LONG
from tests.wrong import no_counts, no_integers, no_numbers, not_sixty_digits


class IsIntegerTest(unittest.TestCase):

    def test_integers(self):
        for value in (0, 1, -1, 255, 2 ** 128, -(2 ** 128), 10 ** 999, -(10 ** 999)):
            self.assertIs(is_integer(value), True)
            self.assertIs(is_integer(value=value), True)

    def test_true_and_false_are_no_integers(self):
        self.assertIs(is_integer(True), False)
        self.assertIs(is_integer(False), False)

    def test_other_objects_are_no_integers(self):
        for value in no_integers():
            self.assertIs(is_integer(value), False)


class HelpersTest(unittest.TestCase):

    def test_quotients_are_rounded_toward_zero(self):
        for x in range(-20, 21):
            for y in (*range(-20, 0), *range(1, 21)):
                self.assertEqual(toward_zero(x, y), math.trunc(Fraction(x, y)))

    def test_integers_of_sixty_digits(self):
        for value in (0, 1, -1, TOO_LONG - 1, 1 - TOO_LONG):
            self.assertIs(is_sixty_digits(value), True)
        for value in not_sixty_digits():
            self.assertIs(is_sixty_digits(value), False)

    def test_numbers(self):
        for total in (0, 1, 5, 10 ** 60):
            for j in (0, total // 2, total - 1) if total else ():
                check_number(j, total)
            for j in no_numbers(total):
                with self.assertRaises(InvalidBound) as caught:
                    check_number(j, total)
                self.assertEqual(caught.exception.argument, "j")

    def test_counts(self):
        for value in (0, 1, 2 ** 128, HUGE):
            self.assertIs(is_count(value), True)
            check_count(value, "n")
        for value in no_counts():
            self.assertIs(is_count(value), False)
            with self.assertRaises(InvalidBound) as caught:
                check_count(value, "n")
            self.assertEqual(caught.exception.argument, "n")

    def test_twos_up_to_a_limit(self):
        for most in (0, 1, 5, 128):
            for odd in (1, -1, 3, -5, 10 ** 59 + 1):
                for count in (0, 1, 4, 5, 6, 127, 128, 200):
                    self.assertEqual(twos_in(odd * 2 ** count, most), min(count, most))
            self.assertEqual(twos_in(0, most), most)

    def test_factors_of_two(self):
        for count in (*range(20), 127, 128, 200):
            for odd in (1, -1, 3, -5, 10 ** 59 + 1):
                self.assertEqual(factors_of_two(odd * 2 ** count), count)

    def test_inverses_of_odd_integers(self):
        for bits in range(1, 130):
            for x in (1, 3, 5, 7, -1, -3, 2 ** 127 - 1, 10 ** 999 + 1, -(10 ** 999) - 7):
                y = odd_inverse(x, bits)
                self.assertTrue(0 <= y < 2 ** bits)
                self.assertEqual((x * y - 1) % 2 ** bits, 0)


if __name__ == "__main__":
    unittest.main()
