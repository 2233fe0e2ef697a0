"""Operations, overflow, inverses and factors of two: points 3, 4, 7 and 8."""

import math
import unittest
from fractions import Fraction

from farwrap.kinds import Kind, inverse, operate, overflows, twos
from tests.samples import BYTE, SMALL, all_kinds, bounds, wrap
from tests.wrong import check_bound, check_bounds, nested_list, no_kinds, no_strings, not_values

NAMES = ("add", "subtract", "multiply", "divide", "remainder", "and", "or", "xor", "left", "right")
OVERFLOW_NAMES = ("add", "subtract", "multiply", "divide", "left")
OTHER_NAMES = ["", "Add", "add ", " add", "plus", "+", "mod", "not", "shift", "LEFT", "addsubtract", "x" * 5000]
EDGE_KINDS = [Kind(bits, is_signed) for bits in (1, 2, 3, 8, 63, 64, 65, 127, 128) for is_signed in (False, True)]


def bitwise(name, x, y, size):
    """The sum of the powers of two below `size` that the operation leaves."""
    total = 0
    power = 1
    while power < size:
        one, two = x // power % 2, y // power % 2
        ones = one + two
        if (name == "and" and ones == 2) or (name == "or" and ones > 0) or (name == "xor" and ones == 1):
            total += power
        power *= 2
    return total


def exact(kind, name, x, y):
    """The exact result of an operation, by the words of point 7; None if it does not take this y."""
    bits = kind.parts()[0]
    if name in ("divide", "remainder"):
        if y == 0:
            return None
        quotient = math.trunc(Fraction(x, y))
        return quotient if name == "divide" else x - y * quotient
    if name in ("left", "right"):
        if y < 0 or y >= bits:
            return None
        return x * 2 ** y if name == "left" else math.floor(Fraction(x, 2 ** y))
    if name in ("and", "or", "xor"):
        return bitwise(name, x, y, 2 ** bits)
    return {"add": x + y, "subtract": x - y, "multiply": x * y}[name]


def edge_values(kind):
    low, high = bounds(kind)
    bits = kind.parts()[0]
    marks = (low, low + 1, low // 3, -2, -1, 0, 1, 2, bits - 1, bits, 3 ** 40, high // 3, high // 2 + 1, high - 1, high)
    return sorted({mark for mark in marks if low <= mark <= high})


class OperateTest(unittest.TestCase):

    def check_pair(self, kind, x, y):
        low, high = bounds(kind)
        for name in NAMES:
            result = exact(kind, name, x, y)
            if result is None:
                check_bound(self, operate, {"kind": kind, "name": name, "x": x, "y": y}, "y")
                if name in OVERFLOW_NAMES:
                    check_bound(self, overflows, {"kind": kind, "name": name, "x": x, "y": y}, "y")
                continue
            self.assertEqual(operate(kind, name, x, y), wrap(kind, result), (kind.parts(), name, x, y))
            if name in OVERFLOW_NAMES:
                is_over = not low <= result <= high
                self.assertIs(overflows(kind, name, x, y), is_over, (kind.parts(), name, x, y))

    def test_all_pairs_of_small_kinds(self):
        for kind in all_kinds(4):
            low, high = bounds(kind)
            for x in range(low, high + 1):
                for y in range(low, high + 1):
                    self.check_pair(kind, x, y)

    def test_edges_of_large_kinds(self):
        for kind in EDGE_KINDS:
            for x in edge_values(kind):
                for y in edge_values(kind):
                    self.check_pair(kind, x, y)

    def test_examples(self):
        self.assertEqual(operate(SMALL, "divide", -128, -1), -128)
        self.assertEqual(operate(SMALL, "remainder", -7, 2), -1)
        self.assertEqual(operate(SMALL, "right", -7, 1), -4)
        self.assertEqual(operate(BYTE, "multiply", 16, 17), 16)
        self.assertEqual(operate(kind=SMALL, name="right", x=-7, y=1), -4)

    def test_division_of_negative_values(self):
        for x, y, quotient, remainder in (
            (7, 2, 3, 1), (-7, 2, -3, -1), (7, -2, -3, 1), (-7, -2, 3, -1), (-8, 2, -4, 0),
            (-1, 127, 0, -1), (127, -128, 0, 127), (-128, 127, -1, -1), (0, -5, 0, 0),
        ):
            self.assertEqual(operate(SMALL, "divide", x, y), quotient)
            self.assertEqual(operate(SMALL, "remainder", x, y), remainder)

    def test_the_least_value_divided_by_minus_one(self):
        for kind in all_kinds():
            if kind.parts()[1]:
                low = bounds(kind)[0]
                self.assertEqual(operate(kind, "divide", low, -1), low)
                self.assertEqual(operate(kind, "remainder", low, -1), 0)
                self.assertIs(overflows(kind, "divide", low, -1), True)

    def test_bits_of_negative_values(self):
        self.assertEqual(operate(SMALL, "and", -128, -1), -128)
        self.assertEqual(operate(SMALL, "and", -1, 127), 127)
        self.assertEqual(operate(SMALL, "or", -128, 127), -1)
        self.assertEqual(operate(SMALL, "xor", -1, 1), -2)
        self.assertEqual(operate(BYTE, "xor", 255, 1), 254)

    def test_shifts_up_to_the_number_of_bits(self):
        for kind in all_kinds():
            bits = kind.parts()[0]
            low, high = bounds(kind)
            for name in ("left", "right"):
                for y in (0, bits - 1):
                    for x in (low, high):
                        self.assertEqual(operate(kind, name, x, y), wrap(kind, exact(kind, name, x, y)))
                for y in (bits, -1, bits + 1):
                    check_bound(self, operate, {"kind": kind, "name": name, "x": low, "y": y}, "y")

    def test_wrong_arguments(self):
        for kind in (BYTE, SMALL, Kind(1, False), Kind(1, True), Kind(128, False), Kind(128, True)):
            low, high = bounds(kind)
            values = not_values(kind)
            for name in NAMES:
                right = {"kind": kind, "name": name, "x": low, "y": 0}
                if name in ("divide", "remainder"):
                    right["y"] = high if high else low
                wrong = {"kind": no_kinds(), "name": no_strings() + OTHER_NAMES, "x": values, "y": list(values)}
                if name in ("divide", "remainder"):
                    wrong["y"].append(0)
                if name in ("left", "right"):
                    wrong["y"] += [-1, kind.parts()[0]]
                check_bounds(self, operate, right, wrong)


class OverflowsTest(unittest.TestCase):

    def test_examples(self):
        self.assertIs(overflows(SMALL, "divide", -128, -1), True)
        self.assertIs(overflows(BYTE, "add", 200, 55), False)
        self.assertIs(overflows(BYTE, "add", 200, 56), True)
        self.assertIs(overflows(y=55, x=200, name="add", kind=BYTE), False)

    def test_one_beyond_the_least_and_the_greatest_value(self):
        for kind in all_kinds():
            low, high = bounds(kind)
            self.assertIs(overflows(kind, "add", high, 0), False)
            self.assertIs(overflows(kind, "subtract", low, 0), False)
            if high > 0:
                self.assertIs(overflows(kind, "add", high, 1), True)
                self.assertIs(overflows(kind, "add", high - 1, 1), False)
                self.assertIs(overflows(kind, "subtract", low, 1), True)
                self.assertIs(overflows(kind, "subtract", low + 1, 1), False)

    def test_other_operations_do_not_overflow(self):
        for name in ("remainder", "and", "or", "xor", "right"):
            check_bound(self, overflows, {"kind": BYTE, "name": name, "x": 1, "y": 1}, "name")
            check_bound(self, overflows, {"kind": BYTE, "name": name, "x": 256, "y": None}, "name")
            check_bound(self, overflows, {"kind": 8, "name": name, "x": 1, "y": 1}, "kind")

    def test_wrong_arguments(self):
        for kind in (BYTE, SMALL, Kind(1, False), Kind(1, True), Kind(128, False), Kind(128, True)):
            low, high = bounds(kind)
            values = not_values(kind)
            for name in OVERFLOW_NAMES:
                right = {"kind": kind, "name": name, "x": low, "y": 0}
                names = no_strings() + OTHER_NAMES + ["remainder", "and", "or", "xor", "right"]
                wrong = {"kind": no_kinds(), "name": names, "x": values, "y": list(values)}
                if name == "divide":
                    right["y"] = high if high else low
                    wrong["y"].append(0)
                if name == "left":
                    wrong["y"] += [-1, kind.parts()[0]]
                check_bounds(self, overflows, right, wrong)


class InverseTest(unittest.TestCase):

    def test_examples(self):
        self.assertEqual(inverse(BYTE, 3), 171)
        self.assertEqual(inverse(x=3, kind=BYTE), 171)
        self.assertIsNone(inverse(BYTE, 6))

    def test_all_values_of_small_kinds(self):
        for kind in all_kinds(7):
            low, high = bounds(kind)
            one = wrap(kind, 1)
            for x in range(low, high + 1):
                found = [y for y in range(low, high + 1) if wrap(kind, x * y) == one]
                self.assertEqual(inverse(kind, x), found[0] if found else None)

    def test_edges_of_all_kinds(self):
        for kind in all_kinds():
            for x in edge_values(kind):
                y = inverse(kind, x)
                if x % 2 == 0:
                    self.assertIsNone(y)
                else:
                    self.assertTrue(bounds(kind)[0] <= y <= bounds(kind)[1])
                    self.assertEqual((x * y - 1) % 2 ** kind.parts()[0], 0)

    def test_a_signed_bit_is_its_own_inverse(self):
        self.assertEqual(inverse(Kind(1, True), -1), -1)
        self.assertIsNone(inverse(Kind(1, True), 0))

    def test_wrong_arguments(self):
        for kind in (BYTE, SMALL, Kind(1, True), Kind(128, False), Kind(128, True)):
            check_bounds(self, inverse, {"kind": kind, "x": 0}, {"kind": no_kinds(), "x": not_values(kind)})


class TwosTest(unittest.TestCase):

    def test_examples(self):
        self.assertEqual(twos(SMALL, -96), 5)
        self.assertEqual(twos(BYTE, 0), 8)
        self.assertEqual(twos(x=96, kind=BYTE), 5)

    def test_all_values_of_small_kinds(self):
        for kind in all_kinds(7):
            low, high = bounds(kind)
            for x in range(low, high + 1):
                count = 0
                while count < kind.parts()[0] and x % 2 ** (count + 1) == 0:
                    count += 1
                self.assertEqual(twos(kind, x), count)

    def test_zero_and_powers_of_two_of_all_kinds(self):
        for kind in all_kinds():
            bits, is_signed = kind.parts()
            self.assertEqual(twos(kind, 0), bits)
            for count in range(bits - 1):
                self.assertEqual(twos(kind, 2 ** count), count)
            self.assertEqual(twos(kind, -(2 ** (bits - 1)) if is_signed else 2 ** (bits - 1)), bits - 1)

    def test_wrong_arguments(self):
        for kind in (BYTE, SMALL, Kind(1, True), Kind(128, False), Kind(128, True)):
            check_bounds(self, twos, {"kind": kind, "x": 0}, {"kind": no_kinds(), "x": not_values(kind)})


class DeepArgumentsTest(unittest.TestCase):

    def test_lists_nested_1980_deep(self):
        deep = nested_list()
        for call in (operate, overflows):
            right = {"kind": BYTE, "name": "add", "x": 1, "y": 1}
            for name in right:
                check_bound(self, call, {**right, name: deep}, name)


if __name__ == "__main__":
    unittest.main()
