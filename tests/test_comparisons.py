"""Two lines compared, and overflow counted: points 14 to 20, against counting one by one, and by formulas."""

import unittest

from farwrap.comparisons import (
    compares, first_holding, first_surprise, holding_at, holds, last_holding, overflow_total, pair_overflows,
    pairs_within, safe_values, surprises,
)
from farwrap.kinds import Kind, overflows
from tests.samples import BYTE, SMALL, TOO_LONG, WIDE_KINDS, all_kinds, bounds, shares, values, wrap
from tests.wrong import (
    check_bound, check_bounds, no_kinds, no_numbers, no_operations, no_relations, not_lines, not_sixty_digits,
    not_spans, not_values,
)

FAR = 10 ** 60 - 1
COMPARED = {
    "<": lambda y, z: y < z,
    "<=": lambda y, z: y <= z,
    "==": lambda y, z: y == z,
    "!=": lambda y, z: y != z,
    ">=": lambda y, z: y >= z,
    ">": lambda y, z: y > z,
}
OPPOSITE = {"<": ">=", "<=": ">", "==": "!=", "!=": "==", ">=": "<", ">": "<="}
SWAPPED = {"<": ">", "<=": ">=", "==": "==", "!=": "!=", ">=": "<=", ">": "<"}
OPERATIONS = {"add": lambda x, y: x + y, "subtract": lambda x, y: x - y, "multiply": lambda x, y: x * y}
RANGES = ((0, 0), (0, 30), (-13, 9), (4, 3), (9, -FAR), (FAR - 11, FAR), (-FAR, -FAR + 9))
LINES = ((3, 200), (1, 0))


def exact(line, x):
    return line[0] * x + line[1]


def pairs_of_lines(kind):
    size = 2 ** kind.parts()[0]
    if size <= 2:
        near = [(a, b) for a in range(-2, 3) for b in range(-2, 3)]
        return [(one, other) for one in near for other in near]
    slopes = (-size + 1, -3, -1, 0, 1, 2, size // 2, size // 2 + 1, size, 3 * size + 5)
    shifts = (0, 1, -1, size // 2, -size - 2, 5 * size + 3)
    pairs = []
    for place, a in enumerate(slopes):
        for at, c in enumerate(slopes):
            b, d = shifts[(place + at) % 6], shifts[(3 * place + 2 * at + 1) % 6]
            pairs.append(((a, b), (c, d)))
    pairs += [((a, b), (a, b)) for a, b in ((1, 0), (3, -1), (0, 5))]
    # Lines that cross between two integers, on one, and far away.
    pairs += [((2, 0), (0, 7)), ((2, 0), (0, 8)), ((-2, 3), (1, -6)), ((-2, 3), (1, -7)), ((1, FAR), (-1, -FAR))]
    return pairs + [((FAR, -FAR), (1, 0)), ((FAR, -FAR), (FAR, -FAR + 1)), ((-FAR, 3), (FAR, -3)), ((1, 0), (1, FAR))]


class SmallKindsTest(unittest.TestCase):

    def check_range(self, kind, one, other, first, last):
        results = {x: (wrap(kind, exact(one, x)), wrap(kind, exact(other, x))) for x in range(first, last + 1)}
        for relation, compared in COMPARED.items():
            place = (kind.parts(), one, relation, other, first, last)
            arguments = (kind, one, relation, other, first, last)
            wanted = [x for x, (y, z) in results.items() if compared(y, z)]
            self.assertEqual(holds(*arguments), len(wanted), place)
            self.assertEqual(first_holding(*arguments), wanted[0] if wanted else None, place)
            self.assertEqual(last_holding(*arguments), wanted[-1] if wanted else None, place)
            for j in shares(range(len(wanted)), 3):
                self.assertEqual(holding_at(*arguments, j), wanted[j], place)
            odd = [x for x in results if (x in wanted) != compared(exact(one, x), exact(other, x))]
            self.assertEqual(surprises(*arguments), len(odd), place)
            self.assertEqual(first_surprise(*arguments), odd[0] if odd else None, place)

    def test_one_by_one(self):
        for kind in all_kinds(6):
            for one, other in pairs_of_lines(kind):
                for first, last in RANGES:
                    self.check_range(kind, one, other, first, last)

    def test_all_short_ranges(self):
        for kind in (Kind(2, True), Kind(3, False)):
            for one, other in (((3, 1), (1, 0)), ((-1, 2), (2, -9)), ((2, 0), (0, 7)), ((4, 4), (1, 1))):
                for first in range(-7, 8):
                    for last in range(first - 2, first + 9):
                        self.check_range(kind, one, other, first, last)

    def test_compares(self):
        for kind in all_kinds(6):
            for one, other in shares(pairs_of_lines(kind), 40):
                for x in (*range(-9, 10), FAR, -FAR):
                    y, z = wrap(kind, exact(one, x)), wrap(kind, exact(other, x))
                    for relation, compared in COMPARED.items():
                        self.assertIs(compares(kind, one, relation, other, x), compared(y, z))

    def test_examples(self):
        one, other = LINES
        self.assertIs(compares(BYTE, one, "<", other, 19), True)
        self.assertEqual(holds(BYTE, one, "<", other, 0, 99), 9)
        self.assertEqual(holds(BYTE, one, "==", other, 0, 99), 1)
        self.assertEqual(holding_at(BYTE, one, "<", other, 0, 99, 8), 27)
        self.assertEqual((first_holding(BYTE, one, "<", other, 0, 99), last_holding(BYTE, one, "<", other, 0, 99)), (19, 27))
        self.assertEqual(surprises(BYTE, one, "<", other, 0, 99), 9)
        self.assertEqual(first_surprise(BYTE, (1, 0), "<", (1, 1), 0, 999), 255)

    def test_arguments_by_name(self):
        lines = {"kind": BYTE, "one": (3, 200), "relation": "<", "other": (1, 0)}
        named = {**lines, "first": 0, "last": 99}
        self.assertIs(compares(**lines, x=19), True)
        self.assertEqual((holds(**named), holding_at(**named, j=8)), (9, 27))
        self.assertEqual((first_holding(**named), last_holding(**named)), (19, 27))
        self.assertEqual((surprises(**named), first_surprise(**named)), (9, 19))

    def test_signed_kinds_are_compared_with_their_signs(self):
        self.assertIs(compares(SMALL, (1, 0), "<", (0, 1), 200), True)
        self.assertIs(compares(BYTE, (1, 0), "<", (0, 1), 200), False)
        self.assertEqual(holds(SMALL, (1, 0), "<", (0, 0), 0, 255), 128)
        self.assertEqual(holds(BYTE, (1, 0), "<", (0, 0), 0, 255), 0)
        self.assertEqual(surprises(SMALL, (1, 0), "<", (0, 0), -128, 127), 0)
        self.assertEqual(surprises(SMALL, (1, 0), "<", (0, 0), -129, 128), 2)


class WideKindsTest(unittest.TestCase):

    COUNT = 10 ** 58
    PAIRS = [
        ((3, 200), (1, 0)), ((210306068529402873165736369884012333109, -FAR), (-(10 ** 59), 77)),
        ((1, 5), (1, 9)), ((2 ** 64, 1), (2 ** 63, -1)), ((0, 7), (11400714819323198485, 3)), ((5, -2), (5, -2)),
        ((2 ** 100 + 1, 0), (1, 2 ** 70)), ((-7, 3 * 10 ** 58), (7, -3 * 10 ** 58 - 1)),
    ]
    STARTS = (-(10 ** 57), 0, 10 ** 59, -FAR + 1)

    def cases(self):
        for kind in WIDE_KINDS:
            for place, (one, other) in enumerate(self.PAIRS):
                first = self.STARTS[place % len(self.STARTS)]
                yield kind, one, other, first, first + self.COUNT - 1

    def test_parts_of_a_range_add_up(self):
        for kind, one, other, first, last in self.cases():
            for relation in COMPARED:
                for function in (holds, surprises):
                    total = function(kind, one, relation, other, first, last)
                    for middle in (first, first + 10 ** 30, (first + last) // 2, last - 1):
                        parts = function(kind, one, relation, other, first, middle)
                        self.assertEqual(parts + function(kind, one, relation, other, middle + 1, last), total)

    def test_a_relation_and_its_opposite_add_up(self):
        for kind, one, other, first, last in self.cases():
            found = {relation: holds(kind, one, relation, other, first, last) for relation in COMPARED}
            self.assertEqual(found["<"] + found["=="] + found[">"], self.COUNT)
            for relation, opposite in OPPOSITE.items():
                self.assertEqual(found[relation] + found[opposite], self.COUNT)
                self.assertEqual(found[relation], holds(kind, other, SWAPPED[relation], one, first, last))
                surprised = surprises(kind, one, relation, other, first, last)
                self.assertEqual(surprised, surprises(kind, one, opposite, other, first, last))
                self.assertEqual(surprised, surprises(kind, other, SWAPPED[relation], one, first, last))

    def test_number_j_is_one_and_has_j_ahead(self):
        for kind, one, other, first, last in self.cases():
            for relation in ("<", "==", ">="):
                arguments = (kind, one, relation, other, first, last)
                total = holds(*arguments)
                for j in (0, total // 3, total - 1) if total else ():
                    x = holding_at(*arguments, j)
                    self.assertTrue(first <= x <= last)
                    y, z = wrap(kind, exact(one, x)), wrap(kind, exact(other, x))
                    self.assertTrue(COMPARED[relation](y, z))
                    self.assertEqual(holds(kind, one, relation, other, first, x - 1), j)
                self.assertEqual(first_holding(*arguments), holding_at(*arguments, 0) if total else None)
                self.assertEqual(last_holding(*arguments), holding_at(*arguments, total - 1) if total else None)

    def test_the_first_surprise_is_one_with_none_ahead(self):
        for kind, one, other, first, last in self.cases():
            for relation in ("<=", "!="):
                x = first_surprise(kind, one, relation, other, first, last)
                if x is None:
                    self.assertEqual(surprises(kind, one, relation, other, first, last), 0)
                    continue
                y, z = wrap(kind, exact(one, x)), wrap(kind, exact(other, x))
                unwrapped = COMPARED[relation](exact(one, x), exact(other, x))
                self.assertNotEqual(COMPARED[relation](y, z), unwrapped)
                self.assertEqual(surprises(kind, one, relation, other, first, x - 1), 0)

    def test_one_step_apart(self):
        for kind in WIDE_KINDS:
            size = 2 ** kind.parts()[0]
            high = bounds(kind)[1]
            # x + c is less than x just for the c values that wrap.
            for c in (1, 9, 2 ** 60):
                arguments = (kind, (1, c), "<", (1, 0), -5 * size, 5 * size - 1)
                self.assertEqual(holds(*arguments), 10 * c)
                self.assertEqual(surprises(*arguments), 10 * c)
                self.assertEqual(first_surprise(kind, (1, c), "<", (1, 0), 0, size), high - c + 1)
                self.assertEqual(holding_at(kind, (1, c), "<", (1, 0), 0, size - 1, c - 1), high)

    def test_a_line_against_a_constant(self):
        for kind in WIDE_KINDS:
            size = 2 ** kind.parts()[0]
            low, high = bounds(kind)
            for c in (low, low + 7, 0, high // 2, high):
                for a in (1, -1, 5, 2 ** 33 + 1):
                    arguments = ((a, 3), (0, c), 17, 17 + 3 * size - 1)
                    for relation, count in (("<", c - low), ("<=", c - low + 1), ("==", 1), (">", high - c)):
                        one, other, first, last = arguments
                        self.assertEqual(holds(kind, one, relation, other, first, last), 3 * count)


class NoXTest(unittest.TestCase):

    def test_last_less_than_first(self):
        for kind in (BYTE, SMALL, *WIDE_KINDS):
            for one, other in (((3, 200), (1, 0)), ((0, 0), (0, 0)), ((FAR, 1), (-FAR, 3))):
                for relation in COMPARED:
                    for first, last in ((1, 0), (5, -5), (FAR, -FAR)):
                        arguments = (kind, one, relation, other, first, last)
                        self.assertEqual((holds(*arguments), surprises(*arguments)), (0, 0))
                        self.assertIsNone(first_holding(*arguments))
                        self.assertIsNone(last_holding(*arguments))
                        self.assertIsNone(first_surprise(*arguments))
                        named = {"kind": kind, "one": one, "relation": relation, "other": other}
                        check_bound(self, holding_at, {**named, "first": first, "last": last, "j": 0}, "j")


class WrongLinesTest(unittest.TestCase):

    RIGHT = {"kind": SMALL, "one": (3, 200), "relation": "<", "other": (1, 0), "first": -9, "last": 99}

    def wrong(self):
        return {
            "kind": no_kinds(), "one": not_lines(), "relation": no_relations(), "other": not_lines(),
            "first": not_sixty_digits(), "last": not_sixty_digits(),
        }

    def test_functions_of_a_range(self):
        for function in (holds, first_holding, last_holding, surprises, first_surprise):
            check_bounds(self, function, self.RIGHT, self.wrong())

    def test_numbers(self):
        total = holds(**self.RIGHT)
        check_bounds(self, holding_at, {**self.RIGHT, "j": total - 1}, {**self.wrong(), "j": no_numbers(total)})
        for j in no_numbers(0) + [0, 1]:
            check_bound(self, holding_at, {**self.RIGHT, "one": (1, 0), "j": j}, "j")

    def test_compares(self):
        right = {"kind": SMALL, "one": (3, 200), "relation": "<", "other": (1, 0), "x": 19}
        wrong = {name: values for name, values in self.wrong().items() if name in right}
        check_bounds(self, compares, right, {**wrong, "x": not_sixty_digits()})

    def test_sixty_digits_are_the_most(self):
        for sign in (1, -1):
            longest = sign * (TOO_LONG - 1)
            right = {**self.RIGHT, "one": (longest, longest), "other": (longest, longest), "first": longest, "last": longest}
            self.assertEqual(holds(**right), 0)
            for name, value in (
                ("one", (sign * TOO_LONG, 0)), ("other", (0, sign * TOO_LONG)),
                ("first", sign * TOO_LONG), ("last", sign * TOO_LONG),
            ):
                check_bound(self, holds, {**right, name: value}, name)


def over(kind, name, x, y):
    low, high = bounds(kind)
    return not low <= OPERATIONS[name](x, y) <= high


class OverflowTest(unittest.TestCase):

    def test_all_constants_of_small_kinds(self):
        for kind in all_kinds(6):
            for name in OPERATIONS:
                for c in values(kind):
                    bad = [over(kind, name, x, c) for x in values(kind)]
                    safe = [x for x, is_bad in zip(values(kind), bad) if not is_bad]
                    self.assertEqual(safe_values(kind, name, c), (safe[0], safe[-1]))
                    self.assertEqual(safe, list(range(safe[0], safe[-1] + 1)))
                    self.check_totals(kind, name, c, bad)

    def check_totals(self, kind, name, c, bad):
        low = bounds(kind)[0]
        for first in shares(values(kind), 9):
            for last in shares(values(kind), 8):
                total = sum(bad[first - low:last - low + 1]) if first <= last else 0
                self.assertEqual(overflow_total(kind, name, c, first, last), total)

    def test_edges_of_all_kinds(self):
        for kind in all_kinds():
            low, high = bounds(kind)
            for name in OPERATIONS:
                for c in sorted({low, high, low // 2, high // 3, max(low, -1), 0, min(high, 1), min(high, 3)}):
                    start, end = safe_values(kind, name, c)
                    self.assertTrue(low <= start <= end <= high)
                    for x in (start, end):
                        self.assertIs(overflows(kind, name, x, c), False)
                    self.assertIs(start == low or overflows(kind, name, start - 1, c), True)
                    self.assertIs(end == high or overflows(kind, name, end + 1, c), True)
                    self.assertEqual(overflow_total(kind, name, c, low, high), start - low + high - end)
                    self.assertEqual(overflow_total(kind, name, c, start, end), 0)
                    self.assertEqual(overflow_total(kind, name, c, high, low), 0)

    def test_examples(self):
        self.assertEqual(safe_values(SMALL, "multiply", -1), (-127, 127))
        self.assertEqual(overflow_total(BYTE, "subtract", 5, 0, 9), 5)
        self.assertEqual(safe_values(c=-1, name="multiply", kind=SMALL), (-127, 127))
        self.assertEqual(overflow_total(last=9, first=0, c=5, name="subtract", kind=BYTE), 5)

    def test_last_less_than_first(self):
        for name in OPERATIONS:
            for c in (-128, -1, 0, 1, 127):
                for first, last in ((1, 0), (127, -128), (-127, -128), (127, 126)):
                    self.assertEqual(overflow_total(SMALL, name, c, first, last), 0)

    def test_wrong_arguments(self):
        for kind in (BYTE, SMALL, Kind(1, True), Kind(128, False), Kind(128, True)):
            low, high = bounds(kind)
            for name in OPERATIONS:
                right = {"kind": kind, "name": name, "c": high}
                wrong = {"kind": no_kinds(), "name": no_operations(list(OPERATIONS)), "c": not_values(kind)}
                check_bounds(self, safe_values, right, wrong)
                right = {**right, "first": low, "last": high}
                wrong = {**wrong, "first": not_values(kind), "last": not_values(kind)}
                check_bounds(self, overflow_total, right, wrong)


def spans_of(kind):
    spans = [(first, last) for first in values(kind) for last in values(kind) if first <= last]
    return shares(spans, 40)


class PairsTest(unittest.TestCase):

    def check_spans(self, kind, name, xs, ys):
        low, high = bounds(kind)
        counts = {}
        for x in range(xs[0], xs[1] + 1):
            for y in range(ys[0], ys[1] + 1):
                exact_result = OPERATIONS[name](x, y)
                counts[exact_result] = counts.get(exact_result, 0) + 1
        bad = sum(count for n, count in counts.items() if not low <= n <= high)
        self.assertEqual(pair_overflows(kind, name, xs, ys), bad, (kind.parts(), name, xs, ys))
        wrapped_counts = {}
        for n, count in counts.items():
            wrapped_counts[wrap(kind, n)] = wrapped_counts.get(wrap(kind, n), 0) + count
        for one in shares(values(kind), 5):
            for two in shares(values(kind), 6):
                total = sum(count for n, count in wrapped_counts.items() if one <= n <= two)
                self.assertEqual(pairs_within(kind, name, xs, ys, one, two), total, (kind.parts(), name, xs, ys))

    def test_small_kinds(self):
        for kind in all_kinds(6):
            spans = spans_of(kind)
            for name in ("add", "subtract"):
                for xs in spans:
                    for ys in spans if kind.parts()[0] <= 3 else shares(spans, 12):
                        self.check_spans(kind, name, xs, ys)

    def test_wide_kinds_add_up(self):
        for kind in WIDE_KINDS:
            low, high = bounds(kind)
            third = (high - low) // 3
            whole = (low, high)
            spans = [whole, (low, low), (high, high), (low + third, high - third), (0, high // 2), (low, high - 1)]
            for name in ("add", "subtract"):
                for xs in spans:
                    for ys in spans:
                        self.check_parts(kind, name, xs, ys)

    def check_parts(self, kind, name, xs, ys):
        low, high = bounds(kind)
        pairs = (xs[1] - xs[0] + 1) * (ys[1] - ys[0] + 1)
        self.assertEqual(pairs_within(kind, name, xs, ys, low, high), pairs)
        cut = low + (high - low) // 5
        within = pairs_within(kind, name, xs, ys, low, cut)
        self.assertEqual(within + pairs_within(kind, name, xs, ys, cut + 1, high), pairs)
        if xs[0] < xs[1]:
            middle = (xs[0] + xs[1]) // 2
            parts = ((xs[0], middle), (middle + 1, xs[1]))
            total = sum(pair_overflows(kind, name, part, ys) for part in parts)
            self.assertEqual(total, pair_overflows(kind, name, xs, ys))
            self.assertEqual(sum(pairs_within(kind, name, part, ys, low, cut) for part in parts), within)
        x_alone = sum(overflow_total(kind, name, y, *xs) for y in {ys[0], ys[1]})
        ends = sum(pair_overflows(kind, name, xs, (y, y)) for y in {ys[0], ys[1]})
        self.assertEqual(ends, x_alone)

    def test_all_pairs_of_wide_kinds(self):
        for kind in WIDE_KINDS:
            low, high = bounds(kind)
            size = high - low + 1
            # Each value is the sum and the difference of as many pairs as there are values.
            for name in ("add", "subtract"):
                for one, two in ((low, low), (0, 0), (high - 4, high), (0, 99)):
                    self.assertEqual(pairs_within(kind, name, (low, high), (low, high), one, two), size * (two - one + 1))
            half = size // 2
            over_total = half * half if low else size * (size - 1) // 2
            self.assertEqual(pair_overflows(kind, "add", (low, high), (low, high)), over_total)
            self.assertEqual(pair_overflows(kind, "subtract", (low, high), (low, high)), over_total)

    def test_low_greater_than_high(self):
        for kind in (BYTE, SMALL, *WIDE_KINDS):
            low, high = bounds(kind)
            for name in ("add", "subtract"):
                for one, two in ((high, low), (1, 0), (high, high - 1)):
                    self.assertEqual(pairs_within(kind, name, (low, high), (0, high), one, two), 0)

    def test_examples(self):
        span = (100, 200)
        self.assertEqual(pair_overflows(BYTE, "add", span, span), 8605)
        self.assertEqual(pairs_within(BYTE, "add", span, span, 0, 9), 615)
        self.assertEqual(pair_overflows(ys=span, xs=span, name="add", kind=BYTE), 8605)
        self.assertEqual(pairs_within(high=9, low=0, ys=span, xs=span, name="add", kind=BYTE), 615)

    def test_wrong_arguments(self):
        for kind in (BYTE, SMALL, Kind(1, False), Kind(128, True)):
            low, high = bounds(kind)
            right = {"kind": kind, "name": "add", "xs": (low, high), "ys": (low, low)}
            wrong = {
                "kind": no_kinds(), "name": no_operations(["add", "subtract"]),
                "xs": not_spans(kind), "ys": not_spans(kind),
            }
            check_bounds(self, pair_overflows, right, wrong)
            right = {**right, "low": high, "high": low}
            check_bounds(self, pairs_within, right, {**wrong, "low": not_values(kind), "high": not_values(kind)})


if __name__ == "__main__":
    unittest.main()
