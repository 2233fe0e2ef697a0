"""Lines whose results lie most unevenly, of 64 and 128 bits over 10 ** 58 integers: points 11 to 13, 16 and 17."""

import unittest
from contextlib import ExitStack
from unittest import mock

from farwrap import comparisons, lines
from farwrap.comparisons import first_holding, first_surprise, holding_at, holds, last_holding, surprises
from farwrap.kinds import Kind
from farwrap.lines import (
    descent_at, descents, first_within, greatest_result, last_within, least_result, total_within, within_at,
)
from farwrap.words import RELATIONS, stands
from tests.samples import WIDE_KINDS, bounds, hard_factors, shares, wrap
from tests.wrong import check_bound

COUNT = 10 ** 58
STARTS = (-(10 ** 57), 0, 10 ** 59, -(10 ** 60) + 2)


def hard_lines(kind, count):
    """Lines with factors of all sorts, small and large, below 0 too, and some with one that is not wrapped."""
    size = 2 ** kind.parts()[0]
    found = []
    for place, a in enumerate(shares(hard_factors(size), count)):
        b = (0, -1, 10 ** 58, size // 3, 5, -(10 ** 59) - 7)[place % 6]
        found.append(((a, a - size, a + 5 * size)[place % 3], b))
    return found + [(0, 7), (size, -3), (1, 5), (-1, 5), (2, 0), (size // 2, 1), (size - 1, 0)]


def numbers(total):
    """Numbers of a row of so many: the first ones, the last ones, and some between."""
    return sorted({0, 1, total // 3, total * 6 // 7, total - 2, total - 1} & set(range(total)) if total < 9 else {
        0, 1, 77 % total, total // 3, total * 6 // 7, total - 2, total - 1})


class LinesTest(unittest.TestCase):

    def cases(self, count):
        for kind in WIDE_KINDS:
            for place, line in enumerate(hard_lines(kind, count)):
                first = STARTS[place % len(STARTS)]
                yield kind, line, first, first + COUNT - 1

    def cuts(self, kind, line):
        low, high = bounds(kind)
        y = wrap(kind, line[0] * 10 ** 20 + line[1])
        return [(low, high), (y, y), (low, low + 10 ** 6), (high // 2, high - 2), (0, min(high, 2 ** 50)), (high, high)]

    def test_number_j_is_one_and_has_j_ahead(self):
        for kind, line, first, last in self.cases(90):
            for low, high in self.cuts(kind, line):
                arguments = (kind, line, first, last, low, high)
                total = total_within(*arguments)
                for j in numbers(total):
                    x = within_at(*arguments, j)
                    self.assertTrue(first <= x <= last)
                    self.assertTrue(low <= wrap(kind, line[0] * x + line[1]) <= high)
                    self.assertEqual(total_within(kind, line, first, x - 1, low, high), j)
                named = dict(zip(("kind", "line", "first", "last", "low", "high"), arguments))
                check_bound(self, within_at, {**named, "j": total}, "j")

    def test_none_is_ahead_of_the_first_one_and_none_behind_the_last_one(self):
        for kind, line, first, last in self.cases(90):
            for low, high in self.cuts(kind, line):
                arguments = (kind, line, first, last, low, high)
                least, most = first_within(*arguments), last_within(*arguments)
                if least is None or most is None:
                    self.assertEqual((least, most, total_within(*arguments)), (None, None, 0))
                    continue
                self.assertTrue(first <= least <= most <= last)
                for x in (least, most):
                    self.assertTrue(low <= wrap(kind, line[0] * x + line[1]) <= high)
                self.assertEqual(total_within(kind, line, first, least - 1, low, high), 0)
                self.assertEqual(total_within(kind, line, most + 1, last, low, high), 0)

    def test_short_ranges(self):
        for kind, line, first, _ in self.cases(40):
            low, high = bounds(kind)
            found = {x: wrap(kind, line[0] * x + line[1]) for x in range(first, first + 60)}
            for count in (1, 2, 7, 60):
                near = {x: y for x, y in found.items() if x < first + count}
                last = first + count - 1
                self.assertEqual(least_result(kind, line, first, last), min((y, x) for x, y in near.items()))
                high_y = max(near.values())
                high_x = min(x for x, y in near.items() if y == high_y)
                self.assertEqual(greatest_result(kind, line, first, last), (high_y, high_x))
                within = [x for x, y in near.items() if y <= high // 2]
                self.assertEqual(total_within(kind, line, first, last, low, high // 2), len(within))
                self.assertEqual(first_within(kind, line, first, last, low, high // 2), within[0] if within else None)
                self.assertEqual(last_within(kind, line, first, last, low, high // 2), within[-1] if within else None)

    def test_least_and_greatest_results(self):
        for kind, line, first, last in self.cases(200):
            low, high = bounds(kind)
            for end in (last, first + 10 ** 20, first + 10 ** 9):
                y, x = least_result(kind, line, first, end)
                self.assertEqual(wrap(kind, line[0] * x + line[1]), y)
                self.assertTrue(first <= x <= end)
                self.assertEqual(y == low or total_within(kind, line, first, end, low, y - 1) == 0, True)
                self.assertEqual(total_within(kind, line, first, x - 1, y, y), 0)
                y, x = greatest_result(kind, line, first, end)
                self.assertEqual(wrap(kind, line[0] * x + line[1]), y)
                self.assertTrue(first <= x <= end)
                self.assertEqual(y == high or total_within(kind, line, first, end, y + 1, high) == 0, True)
                self.assertEqual(total_within(kind, line, first, x - 1, y, y), 0)

    def test_descents(self):
        for kind, line, first, last in self.cases(90):
            total = descents(kind, line, first, last)
            for j in numbers(total):
                x = descent_at(kind, line, first, last, j)
                self.assertTrue(first <= x <= last)
                self.assertLess(wrap(kind, line[0] * (x + 1) + line[1]), wrap(kind, line[0] * x + line[1]))
                self.assertEqual(descents(kind, line, first, x - 1), j)
            named = {"kind": kind, "line": line, "first": first, "last": last, "j": total}
            check_bound(self, descent_at, named, "j")


class ComparisonsTest(unittest.TestCase):

    def cases(self, count):
        """Two lines of all sorts: any two, those with factors close to one another, and those where one is flat."""
        for kind in WIDE_KINDS:
            size = 2 ** kind.parts()[0]
            found = hard_lines(kind, count)
            for place, (a, b) in enumerate(found):
                c, d = found[place * 37 % len(found)]
                near = (a + (1, -1, 3, 2 ** 40)[place % 4], b + place % 5 - 2)
                flat = (size * (place % 3 - 1), d)
                along = (a + size * (place % 3 - 1), b + (0, 1, -1, 10 ** 30)[place % 4])
                first = STARTS[place % len(STARTS)]
                for one, other in (((a, b), (c, d)), ((a, b), near), ((a, b), flat), (flat, (c, d)), ((a, b), along)):
                    relation = RELATIONS[place % len(RELATIONS)]
                    yield kind, one, relation, other, first, first + COUNT - 1
                    yield kind, one, RELATIONS[(place + 1) % len(RELATIONS)], other, first + COUNT // 2, first + COUNT - 1

    def results(self, kind, one, other, x):
        return wrap(kind, one[0] * x + one[1]), wrap(kind, other[0] * x + other[1])

    def test_number_j_is_one_and_has_j_ahead(self):
        for kind, one, relation, other, first, last in self.cases(40):
            arguments = (kind, one, relation, other, first, last)
            total = holds(*arguments)
            for j in numbers(total)[1:-1]:
                x = holding_at(*arguments, j)
                y, z = self.results(kind, one, other, x)
                self.assertTrue(first <= x <= last)
                self.assertTrue(stands(y, relation, z))
                self.assertEqual(holds(kind, one, relation, other, first, x - 1), j)
            named = dict(zip(("kind", "one", "relation", "other", "first", "last"), arguments))
            check_bound(self, holding_at, {**named, "j": total}, "j")

    def test_none_is_ahead_of_the_first_one_and_none_behind_the_last_one(self):
        for kind, one, relation, other, first, last in self.cases(90):
            arguments = (kind, one, relation, other, first, last)
            least, most = first_holding(*arguments), last_holding(*arguments)
            if least is None or most is None:
                self.assertEqual((least, most, holds(*arguments)), (None, None, 0))
                continue
            self.assertTrue(first <= least <= most <= last)
            for x in (least, most):
                y, z = self.results(kind, one, other, x)
                self.assertTrue(stands(y, relation, z))
            self.assertEqual(holds(kind, one, relation, other, first, least - 1), 0)
            self.assertEqual(holds(kind, one, relation, other, most + 1, last), 0)

    def test_the_first_surprise(self):
        for kind, one, relation, other, first, last in self.cases(90):
            x = first_surprise(kind, one, relation, other, first, last)
            if x is None:
                self.assertEqual(surprises(kind, one, relation, other, first, last), 0)
                continue
            self.assertTrue(first <= x <= last)
            y, z = self.results(kind, one, other, x)
            unwrapped = stands(one[0] * x + one[1], relation, other[0] * x + other[1])
            self.assertNotEqual(stands(y, relation, z), unwrapped)
            self.assertEqual(surprises(kind, one, relation, other, first, x - 1), 0)

    def test_flat_lines_and_parallel_ones_one_by_one(self):
        for kind in (Kind(3, False), Kind(3, True)):
            for a in (-9, -1, 0, 1, 3, 4, 6, 8):
                for b in (-5, 0, 3, 12):
                    for d in range(-9, 10):
                        for one, other in (((a, b), (0, d)), ((8, d), (a, b)), ((a, b), (a, d)), ((a, b), (a + 8, d))):
                            self.check_all(kind, one, other)

    def check_all(self, kind, one, other):
        found = {x: self.results(kind, one, other, x) for x in range(-7, 14)}
        for relation in RELATIONS:
            wanted = [x for x, (y, z) in found.items() if stands(y, relation, z)]
            arguments = (kind, one, relation, other, -7, 13)
            self.assertEqual([holding_at(*arguments, j) for j in range(len(wanted))], wanted)
            self.assertEqual(first_holding(*arguments), wanted[0] if wanted else None)
            self.assertEqual(last_holding(*arguments), wanted[-1] if wanted else None)


class FewSumsTest(unittest.TestCase):
    """How many sums a call takes, as their number is what its time depends on."""

    WIDE = Kind(128, False)
    LINE = (3 * 10 ** 37 + 7, 10 ** 58)
    RANGE = (-(10 ** 57), 9 * 10 ** 57)

    def sums(self, module, call):
        """The number of sums that a call of a module's function takes."""
        counts = []
        with ExitStack() as stack:
            for name in ("quotient_total", "total_between"):
                if hasattr(module, name):
                    counts.append(mock.Mock(wraps=getattr(module, name)))
                    stack.enter_context(mock.patch.object(module, name, counts[-1]))
            call()
        return sum(count.call_count for count in counts)

    def test_one_line(self):
        line, (first, last) = self.LINE, self.RANGE
        low, high = 2 ** 100, 2 ** 127
        for call in (
            lambda: greatest_result(self.WIDE, line, first, last), lambda: least_result(self.WIDE, line, first, last),
            lambda: first_within(self.WIDE, line, first, last, low, high),
            lambda: last_within(self.WIDE, line, first, last, low, high),
            lambda: within_at(self.WIDE, line, first, last, low, high, 10 ** 40),
            lambda: descent_at(self.WIDE, line, first, last, 10 ** 40),
        ):
            self.assertLessEqual(self.sums(lines, call), 1)

    def test_two_lines(self):
        other, (first, last) = (7 * 10 ** 36 + 1, 5), self.RANGE
        for relation in RELATIONS:
            arguments = (self.WIDE, self.LINE, relation, other, first, last)
            total = holds(*arguments)
            for call in (
                lambda: first_holding(*arguments), lambda: last_holding(*arguments),
                lambda: total and holding_at(*arguments, total // 5), lambda: first_surprise(*arguments),
            ):
                self.assertLessEqual(self.sums(comparisons, call), 120)

    def test_hard_lines(self):
        for kind, one, relation, other, first, last in ComparisonsTest().cases(12):
            arguments = (kind, one, relation, other, first, last)
            total = holds(*arguments)
            for j in numbers(total)[::2]:
                # As many for each question, of which there may be one and a bit for each bit of the range.
                self.assertLessEqual(self.sums(comparisons, lambda: holding_at(*arguments, j)), 3 * 250)


if __name__ == "__main__":
    unittest.main()
