"""One line: points 9 to 13, against counting one by one, and by formulas for wide kinds."""

import unittest

from farwrap.kinds import Kind
from farwrap.lines import (
    descent_at, descents, first_within, greatest_result, last_within, least_result, result, total_within, within_at,
)
from tests.samples import BYTE, SMALL, TOO_LONG, WIDE_KINDS, all_kinds, bounds, shares, values, wrap
from tests.wrong import check_bound, check_bounds, no_kinds, no_numbers, not_lines, not_sixty_digits, not_values

LINE = (3, 200)
FAR = 10 ** 60 - 1
RANGES = ((0, 0), (0, 40), (-17, 5), (-3, -3), (7, 30), (5, 4), (5, -FAR), (FAR - 20, FAR), (-FAR, -FAR + 13))
FAR_LINES = [(FAR, -FAR), (-FAR, FAR), (10 ** 59 + 1, 3), (2 ** 128, 1), (2 ** 190 + 5, -(2 ** 130)), (-1, FAR)]


def lines_for(kind):
    size = 2 ** kind.parts()[0]
    if size <= 4:
        near = [(a, b) for a in range(-size, size + 1) for b in range(-size, size + 1)]
    else:
        near = [(a, b) for a in shares(range(-size - 1, size + 2), 15) for b in (-size - 3, -1, 0, size // 3, size + 1)]
        near += [(size // 2, 1), (-size // 2, size // 2), (size // 2 + 1, 0), (size // 2 - 1, -7), (1, 0), (-1, 0)]
    return near + FAR_LINES


def pairs_for(kind):
    low, high = bounds(kind)
    if kind.parts()[0] <= 2:
        return [(one, two) for one in values(kind) for two in values(kind)]
    middle = (low + high) // 2
    return [(low, high), (low, low), (high, high), (low + 1, middle), (middle, high - 1), (middle, middle), (high, low)]


class ResultTest(unittest.TestCase):

    def test_examples(self):
        self.assertEqual(result(BYTE, LINE, 19), 1)
        self.assertEqual(result(SMALL, LINE, 0), -56)
        self.assertEqual(result(x=0, line=LINE, kind=SMALL), -56)

    def test_small_kinds(self):
        for kind in all_kinds(6):
            for line in lines_for(kind):
                for x in (*range(-12, 13), FAR, -FAR):
                    self.assertEqual(result(kind, line, x), wrap(kind, line[0] * x + line[1]))

    def test_wide_kinds(self):
        for kind in WIDE_KINDS:
            low, high = bounds(kind)
            for b in (low, low + 1, low // 2, 0, 1, high - 1, high):
                self.assertEqual(result(kind, (1, b), 0), b)
                self.assertEqual(result(kind, (2 ** 128, b), FAR), b)
                self.assertEqual(result(kind, (1, b), 2 ** 128), b)
            self.assertEqual(result(kind, (1, high), 1), low)
            self.assertEqual(result(kind, (-1, low), 1), high)
            self.assertEqual(result(kind, (FAR, FAR), FAR), wrap(kind, FAR * FAR + FAR))

    def test_wrong_arguments(self):
        wrong = {"kind": no_kinds(), "line": not_lines(), "x": not_sixty_digits()}
        for kind in (BYTE, SMALL, Kind(1, True), Kind(128, False)):
            check_bounds(self, result, {"kind": kind, "line": LINE, "x": 19}, wrong)
        check_bounds(self, result, {"kind": BYTE, "line": (FAR, -FAR), "x": -FAR}, wrong)


class SmallKindsTest(unittest.TestCase):

    def check_range(self, kind, line, first, last):
        found = {x: wrap(kind, line[0] * x + line[1]) for x in range(first, last + 1)}
        for low, high in pairs_for(kind):
            within = [x for x, y in found.items() if low <= y <= high]
            place = (kind.parts(), line, first, last, low, high)
            arguments = (kind, line, first, last, low, high)
            self.assertEqual(total_within(*arguments), len(within), place)
            self.assertEqual(first_within(*arguments), within[0] if within else None, place)
            self.assertEqual(last_within(*arguments), within[-1] if within else None, place)
            for j in shares(range(len(within)), 4):
                self.assertEqual(within_at(*arguments, j), within[j], place)
        self.check_extremes(kind, line, first, last, found)
        falls = [x for x in found if wrap(kind, line[0] * (x + 1) + line[1]) < found[x]]
        self.assertEqual(descents(kind, line, first, last), len(falls), (kind.parts(), line, first, last))
        for j in shares(range(len(falls)), 4):
            self.assertEqual(descent_at(kind, line, first, last, j), falls[j], (kind.parts(), line, first, last))

    def check_extremes(self, kind, line, first, last, found):
        low = min(((y, x) for x, y in found.items()), default=None)
        high = max(((y, -x) for x, y in found.items()), default=None)
        self.assertEqual(least_result(kind, line, first, last), low)
        self.assertEqual(greatest_result(kind, line, first, last), high and (high[0], -high[1]))

    def test_one_by_one(self):
        for kind in all_kinds(6):
            for line in lines_for(kind):
                for first, last in RANGES:
                    self.check_range(kind, line, first, last)

    def test_all_short_ranges(self):
        for kind in (Kind(3, False), Kind(3, True)):
            for line in ((3, 1), (-3, 2), (4, -1), (1, 0), (0, 5)):
                for first in range(-9, 10):
                    for last in range(first - 2, first + 10):
                        self.check_range(kind, line, first, last)

    def test_examples(self):
        self.assertEqual(total_within(BYTE, LINE, 0, 99, 0, 9), 3)
        self.assertEqual([within_at(BYTE, LINE, 0, 99, 0, 9, j) for j in range(3)], [19, 20, 21])
        self.assertEqual(first_within(BYTE, LINE, 0, 99, 0, 9), 19)
        self.assertEqual(last_within(BYTE, LINE, 0, 99, 0, 9), 21)
        self.assertEqual(least_result(BYTE, LINE, 0, 99), (1, 19))
        self.assertEqual(greatest_result(SMALL, LINE, 0, 99), (127, 61))
        self.assertEqual(descents(BYTE, LINE, 0, 99), 1)
        self.assertEqual(descent_at(BYTE, LINE, 0, 999, 1), 103)

    def test_arguments_by_name(self):
        named = {"kind": BYTE, "line": LINE, "first": 0, "last": 99}
        within = {**named, "low": 0, "high": 9}
        self.assertEqual(total_within(**within), 3)
        self.assertEqual((first_within(**within), last_within(**within), within_at(**within, j=2)), (19, 21, 21))
        self.assertEqual((least_result(**named), greatest_result(**named)), ((1, 19), (254, 18)))
        self.assertEqual((descents(**named), descent_at(**named, j=0)), (1, 18))


class NoXTest(unittest.TestCase):

    def test_last_less_than_first(self):
        for kind in (BYTE, SMALL, *WIDE_KINDS):
            low, high = bounds(kind)
            for line in ((3, 200), (0, 0), (FAR, -FAR)):
                for first, last in ((1, 0), (5, -5), (FAR, -FAR), (-FAR + 1, -FAR), (2 ** 128, 0)):
                    self.assertEqual(total_within(kind, line, first, last, low, high), 0)
                    self.assertIsNone(first_within(kind, line, first, last, low, high))
                    self.assertIsNone(last_within(kind, line, first, last, low, high))
                    self.assertIsNone(least_result(kind, line, first, last))
                    self.assertIsNone(greatest_result(kind, line, first, last))
                    self.assertEqual(descents(kind, line, first, last), 0)
                    right = {"kind": kind, "line": line, "first": first, "last": last}
                    check_bound(self, descent_at, {**right, "j": 0}, "j")
                    check_bound(self, within_at, {**right, "low": low, "high": high, "j": 0}, "j")

    def test_low_greater_than_high(self):
        for kind in (BYTE, SMALL, *WIDE_KINDS):
            low, high = bounds(kind)
            for one, two in ((high, low), (low + 1, low), (high, high - 1), (low + 9, low + 7)):
                right = {"kind": kind, "line": LINE, "first": -FAR, "last": FAR, "low": one, "high": two}
                self.assertEqual(total_within(**right), 0)
                self.assertIsNone(first_within(**right))
                self.assertIsNone(last_within(**right))
                check_bound(self, within_at, {**right, "j": 0}, "j")


class WideKindsTest(unittest.TestCase):

    LINES = [
        (3, 200), (1, -5), (-1, 7), (0, 12), (2 ** 64 + 1, 3), (210306068529402873165736369884012333109, -FAR),
        (11400714819323198485, 1), (-(10 ** 59) - 3, 10 ** 59), (2 ** 127, 2 ** 126), (FAR, FAR), (2 ** 40, 5),
    ]
    STARTS = (-(10 ** 58) // 2, 0, 10 ** 59, -FAR + 1)
    COUNT = 10 ** 58

    def cases(self):
        for kind in WIDE_KINDS:
            for place, line in enumerate(self.LINES):
                first = self.STARTS[place % len(self.STARTS)]
                yield kind, line, first, first + self.COUNT - 1

    def cuts(self, kind):
        low, high = bounds(kind)
        return [(low, high), (low, low + 1), (0, high // 3), (low // 2 if low < 0 else 10 ** 9, high - 5), (7, 7)]

    def test_parts_of_a_range_add_up(self):
        for kind, line, first, last in self.cases():
            self.assertEqual(total_within(kind, line, first, last, *bounds(kind)), self.COUNT)
            for low, high in self.cuts(kind):
                total = total_within(kind, line, first, last, low, high)
                for middle in (first, first + 12345, (first + last) // 2, last - 10 ** 40):
                    parts = total_within(kind, line, first, middle, low, high)
                    parts += total_within(kind, line, middle + 1, last, low, high)
                    self.assertEqual(parts, total)
                middle = (low + high) // 2
                parts = total_within(kind, line, first, last, low, middle)
                if middle < high:
                    parts += total_within(kind, line, first, last, middle + 1, high)
                self.assertEqual(parts, total)

    def test_number_j_is_one_and_has_j_ahead(self):
        for kind, line, first, last in self.cases():
            for low, high in self.cuts(kind)[1:4]:
                total = total_within(kind, line, first, last, low, high)
                arguments = (kind, line, first, last, low, high)
                for j in (0, total // 3, total - 1) if total else ():
                    x = within_at(*arguments, j)
                    self.assertTrue(first <= x <= last)
                    self.assertTrue(low <= wrap(kind, line[0] * x + line[1]) <= high)
                    self.assertEqual(total_within(kind, line, first, x - 1, low, high), j)
                if total:
                    self.assertEqual(first_within(*arguments), within_at(*arguments, 0))
                    self.assertEqual(last_within(*arguments), within_at(*arguments, total - 1))
                else:
                    self.assertIsNone(first_within(*arguments))
                    self.assertIsNone(last_within(*arguments))

    def test_each_value_once_in_all_steps_of_an_odd_line(self):
        for kind in WIDE_KINDS:
            size = 2 ** kind.parts()[0]
            low, high = bounds(kind)
            for line in [line for line in self.LINES if line[0] % 2]:
                for first in (-(10 ** 57), 0, 3):
                    for one, two in ((low, low + 9), (-1 if low else 5, 10 ** 15), (high, high)):
                        self.assertEqual(total_within(kind, line, first, first + 7 * size - 1, one, two), 7 * (two - one + 1))

    def test_even_lines_have_their_results_as_often_as_their_factor_says(self):
        for kind in WIDE_KINDS:
            size = 2 ** kind.parts()[0]
            for i in (1, 5, 40):
                line = (3 * 2 ** i, 1)
                self.assertEqual(total_within(kind, line, 0, size - 1, 1, 2 ** i), 2 ** i)
                self.assertEqual(total_within(kind, line, 0, size - 1, 2, 2 ** i), 0)
                self.assertIsNone(first_within(kind, line, -FAR, FAR, 2, 2 ** i))
                x = first_within(kind, line, 0, size - 1, 1 + 2 ** i, 1 + 2 ** i)
                self.assertEqual((3 * x - 1) % (size // 2 ** i), 0)
                self.assertTrue(0 <= x < size // 2 ** i)

    def test_e203(self):
        self.assertEqual(total_within(Kind(128, False), (3, 0), 0, 2 ** 128 - 1, 0, 9), 10)

    def test_least_and_greatest_results(self):
        for kind, line, first, last in self.cases():
            low, high = bounds(kind)
            y, x = least_result(kind, line, first, last)
            self.assertEqual(wrap(kind, line[0] * x + line[1]), y)
            self.assertTrue(first <= x <= last)
            self.assertEqual(total_within(kind, line, first, x - 1, low, y), 0)
            self.assertEqual(y == low or total_within(kind, line, first, last, low, y - 1) == 0, True)
            y, x = greatest_result(kind, line, first, last)
            self.assertEqual(wrap(kind, line[0] * x + line[1]), y)
            self.assertTrue(first <= x <= last)
            self.assertEqual(total_within(kind, line, first, x - 1, y, high), 0)
            self.assertEqual(y == high or total_within(kind, line, first, last, y + 1, high) == 0, True)

    def test_extremes_by_formulas(self):
        for kind in WIDE_KINDS:
            low, high = bounds(kind)
            size = high - low + 1
            self.assertEqual(least_result(kind, (1, 0), 0, size * 5), (low, low % size))
            self.assertEqual(greatest_result(kind, (1, 0), 0, size * 5), (high, high))
            self.assertEqual(least_result(kind, (-1, 0), 1, 10), (-10 % size if low == 0 else -10, 10))
            self.assertEqual(greatest_result(kind, (0, 7), -FAR, FAR), (7, -FAR))
            self.assertEqual(least_result(kind, (size, 7 + size), -FAR, FAR), (7, -FAR))

    def test_descents_are_as_many_as_the_sizes_passed(self):
        for kind, line, first, last in self.cases():
            low, high = bounds(kind)
            size = high - low + 1
            step = line[0] % size

            def passed(x):
                return (step * x + line[1] - low) // size

            total = passed(last + 1) - passed(first)
            self.assertEqual(descents(kind, line, first, last), total)
            for j in (0, total // 2, total - 1) if total > 2 else range(total):
                x = descent_at(kind, line, first, last, j)
                self.assertTrue(first <= x <= last)
                self.assertEqual(passed(x) - passed(first), j)
                self.assertLess(wrap(kind, line[0] * (x + 1) + line[1]), wrap(kind, line[0] * x + line[1]))


class WrongArgumentsTest(unittest.TestCase):

    RIGHT = {"kind": SMALL, "line": LINE, "first": -9, "last": 99}

    def wrong(self):
        return {"kind": no_kinds(), "line": not_lines(), "first": not_sixty_digits(), "last": not_sixty_digits()}

    def wrong_within(self, kind):
        return {**self.wrong(), "low": not_values(kind), "high": not_values(kind)}

    def test_functions_of_a_range(self):
        for function in (least_result, greatest_result, descents):
            check_bounds(self, function, self.RIGHT, self.wrong())

    def test_functions_with_bounds(self):
        for kind in (SMALL, Kind(128, False)):
            right = {**self.RIGHT, "kind": kind, "low": 0, "high": 9}
            for function in (total_within, first_within, last_within):
                check_bounds(self, function, right, self.wrong_within(kind))

    def test_numbers(self):
        right = {**self.RIGHT, "low": 0, "high": 9}
        total = total_within(**right)
        check_bounds(self, within_at, {**right, "j": total - 1}, {**self.wrong_within(SMALL), "j": no_numbers(total)})
        total = descents(**self.RIGHT)
        check_bounds(self, descent_at, {**self.RIGHT, "j": total - 1}, {**self.wrong(), "j": no_numbers(total)})

    def test_numbers_where_there_are_none(self):
        right = {**self.RIGHT, "low": 9, "high": 0}
        for j in no_numbers(0) + [0, 1]:
            check_bound(self, within_at, {**right, "j": j}, "j")
            check_bound(self, descent_at, {**self.RIGHT, "line": (0, 5), "j": j}, "j")

    def test_sixty_digits_are_the_most(self):
        for sign in (1, -1):
            longest = sign * (TOO_LONG - 1)
            self.assertEqual(total_within(BYTE, (longest, longest), longest, longest, 0, 255), 1)
            for change, name in (
                ({"line": (sign * TOO_LONG, 0)}, "line"), ({"line": (0, sign * TOO_LONG)}, "line"),
                ({"first": sign * TOO_LONG}, "first"), ({"last": sign * TOO_LONG}, "last"),
            ):
                check_bound(self, descents, {**self.RIGHT, **change}, name)


if __name__ == "__main__":
    unittest.main()
