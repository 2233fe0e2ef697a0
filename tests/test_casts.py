"""Rows of casts: points 50 to 53, against all values cast one by one, and at the ends of wide kinds."""

import unittest
from itertools import product

from farwrap.casts import (
    apart_at, apart_total, do_same, origin_at, origin_total, results, shortest, shortest_for, survivor_total, survivors,
)
from farwrap.kinds import Kind
from tests.samples import BYTE, HUGE, SMALL, WORD, all_kinds, bounds, shares, values, wrap
from tests.wrong import check_bound, check_bounds, no_integers, no_kinds, no_numbers, no_rows

KINDS = all_kinds(4)
# The casts of these integers tell rows of kinds of up to four bits apart.
NEAR = range(-16, 32)


def short_rows(kinds):
    return [[one] for one in kinds] + [[one, two] for one in kinds for two in kinds]


def rows_of_three(kinds):
    return short_rows(kinds) + [list(row) for row in product(kinds, repeat=3)]


def after(kinds, n):
    """What a row of casts returns, by the words of point 6."""
    for kind in kinds:
        n = wrap(kind, n)
    return n


def function_of(kinds, numbers=NEAR):
    return tuple(after(kinds, n) for n in numbers)


def parts(kinds):
    return [kind.parts() for kind in kinds]


def spans_of(numbers):
    """Ascending tuples (first, last) for some integers, as few as can be."""
    numbers = sorted(set(numbers))
    first = [n for n in numbers if n - 1 not in numbers]
    last = [n for n in numbers if n + 1 not in numbers]
    return list(zip(first, last))


def long_rows():
    """Rows of up to twenty kinds of up to four bits, always the same."""
    rows = [KINDS[place % 8:place % 8 + 1 + place % 5] for place in range(40)]
    n = 7
    for count in range(1, 21):
        for _ in range(12):
            row = []
            for _ in range(count):
                n = (n * 6364136223846793005 + 1442695040888963407) % 2 ** 64
                row.append(KINDS[n >> 61])
            rows.append(row)
    return [row for row in rows if row]


class RowsTest(unittest.TestCase):

    def test_shortest_and_the_same(self):
        found = {}
        for row in rows_of_three(KINDS):
            found.setdefault(function_of(row), []).append(row)
        for rows in found.values():
            least = min(len(row) for row in rows)
            best = [row for row in rows if len(row) == least]
            self.assertEqual(len(best), 1)
            self.assertLessEqual(least, 2)
            for row in rows:
                self.assertEqual(parts(shortest(row)), parts(best[0]))
                self.assertIs(do_same(row, best[0]), True)

    def test_rows_that_do_not_do_the_same(self):
        rows = short_rows(KINDS)
        for one in shares(rows, 30):
            for other in rows:
                self.assertIs(do_same(one, other), function_of(one) == function_of(other))

    def test_long_rows(self):
        best = {function_of(row): row for row in reversed(short_rows(KINDS))}
        for row in long_rows():
            self.assertEqual(parts(shortest(row)), parts(best[function_of(row)]))

    def test_wide_rows(self):
        wide, huge = Kind(127, True), Kind(128, False)
        for row, best in (
            ([wide, huge], [wide, huge]), ([huge, wide], [wide]), ([huge] * 20, [huge]), ([wide] * 19 + [huge], [wide, huge]),
            ([SMALL, WORD, Kind(128, True)], [SMALL, WORD]), ([SMALL, WORD, huge], [SMALL, WORD]),
            ([SMALL, Kind(64, True), huge], [SMALL, huge]), ([SMALL, huge, WORD], [SMALL, WORD]),
            ([SMALL, huge, Kind(16, True)], [SMALL]), ([BYTE, Kind(128, True)], [BYTE]), ([BYTE, huge], [BYTE]),
            ([Kind(1, True), huge], [Kind(1, True), huge]), ([Kind(1, False), wide], [Kind(1, False)]),
        ):
            self.assertEqual(shortest(row), best)
            self.assertIs(do_same(row, best), True)
            self.assertIs(do_same(best + best[-1:], row), True)
            self.assertIs(do_same(row, [Kind(5, False)]), False)

    def test_examples(self):
        self.assertEqual(shortest([SMALL, Kind(16, False), Kind(32, True)]), [SMALL, Kind(16, False)])
        self.assertIs(do_same([Kind(16, True), BYTE], [BYTE]), True)
        self.assertEqual(survivors(BYTE, [SMALL]), [(0, 127)])
        self.assertEqual(survivors(WORD, [SMALL, WORD]), [(0, 127), (65408, 65535)])
        self.assertEqual(results(SMALL, [WORD]), [(0, 127), (65408, 65535)])
        self.assertEqual(origin_at(WORD, [SMALL], -1, 1), 511)
        self.assertEqual(apart_at(BYTE, [SMALL], [BYTE], 0), 128)
        self.assertEqual(shortest_for(BYTE, [Kind(16, True), Kind(32, False)]), [BYTE])

    def test_arguments_by_name(self):
        named = {"kinds": [SMALL], "kind": WORD}
        self.assertEqual((do_same(others=[BYTE], kinds=[BYTE, SMALL]), shortest(kinds=[BYTE, SMALL])), (False, [SMALL]))
        self.assertEqual((survivors(**named), survivor_total(**named)), ([(0, 127)], 128))
        self.assertEqual((results(**named), shortest_for(**named)), ([(-128, 127)], [SMALL]))
        self.assertEqual((origin_total(y=-1, **named), origin_at(j=1, y=-1, **named)), (256, 511))
        self.assertEqual((apart_total(others=[BYTE], **named), apart_at(j=0, others=[BYTE], **named)), (32768, 128))


class SmallKindsTest(unittest.TestCase):

    def test_survivors_and_results(self):
        for kind in KINDS:
            for row in rows_of_three(KINDS):
                kept = [x for x in values(kind) if after(row, x) == x]
                place = (kind.parts(), parts(row))
                self.assertEqual(survivors(kind, row), spans_of(kept), place)
                self.assertEqual(survivor_total(kind, row), len(kept), place)
                self.assertEqual(results(kind, row), spans_of(after(row, x) for x in values(kind)), place)

    def test_origins(self):
        for kind in KINDS:
            for row in short_rows(KINDS) + shares(rows_of_three(KINDS), 40):
                found = {x: after(row, x) for x in values(kind)}
                for y in range(-9, 17):
                    origins = [x for x in values(kind) if found[x] == y]
                    self.assertEqual(origin_total(kind, row, y), len(origins), (kind.parts(), parts(row), y))
                    for j, x in enumerate(origins):
                        self.assertEqual(origin_at(kind, row, y, j), x, (kind.parts(), parts(row), y))
                counts = {list(found.values()).count(y) for y in found.values()}
                self.assertEqual(len(counts), 1)

    def test_apart(self):
        for kind in KINDS:
            rows = short_rows(KINDS)
            for place, one in enumerate(shares(rows, 25)):
                for other in rows[place % 3::3]:
                    apart = [x for x in values(kind) if after(one, x) != after(other, x)]
                    place = (kind.parts(), parts(one), parts(other))
                    self.assertEqual(apart_total(kind, one, other), len(apart), place)
                    for j in shares(range(len(apart)), 5):
                        self.assertEqual(apart_at(kind, one, other, j), apart[j], place)

    def test_shortest_for(self):
        for kind in KINDS:
            first = {}
            for row in sorted(short_rows(all_kinds(5)), key=lambda row: (len(row), parts(row))):
                first.setdefault(function_of(row, values(kind)), row)
            for row in rows_of_three(KINDS) + long_rows() + short_rows(all_kinds(5)):
                best = first[function_of(row, values(kind))]
                self.assertEqual(parts(shortest_for(kind, row)), parts(best), (kind.parts(), parts(row)))


class WideKindsTest(unittest.TestCase):

    KINDS = [Kind(bits, is_signed) for bits in (1, 8, 63, 64, 127, 128) for is_signed in (False, True)]

    def cases(self):
        for kind in self.KINDS:
            for row in short_rows(self.KINDS):
                yield kind, row

    def ends(self, kind, spans):
        """Integers at the ends of spans, beside them, and at those of the kind, as far as they are values."""
        low, high = bounds(kind)
        near = [end + step for span in [(low, high), (0, high // 3), *spans] for end in span for step in (-1, 0, 1)]
        return [x for x in near if low <= x <= high]

    def test_survivors_at_their_ends_and_beside_them(self):
        for kind, row in self.cases():
            spans = survivors(kind, row)
            self.check_spans(spans)
            for x in self.ends(kind, spans):
                self.assertIs(after(row, x) == x, any(first <= x <= last for first, last in spans))
            self.assertEqual(survivor_total(kind, row), sum(last - first + 1 for first, last in spans))

    def check_spans(self, spans):
        for first, last in spans:
            self.assertLessEqual(first, last)
        for (_, last), (first, _) in zip(spans, spans[1:]):
            self.assertGreater(first, last + 1)

    def test_results_at_their_ends_and_beside_them(self):
        for kind, row in self.cases():
            spans = results(kind, row)
            self.check_spans(spans)
            for x in self.ends(kind, spans):
                y = after(row, x)
                self.assertTrue(any(first <= y <= last for first, last in spans))
            size = sum(last - first + 1 for first, last in spans)
            for y in {end + step for span in spans for end in span for step in (-1, 0, 1)}:
                total = origin_total(kind, row, y)
                is_result = any(first <= y <= last for first, last in spans)
                self.assertEqual(total * size, 2 ** kind.parts()[0] if is_result else 0)
                self.check_origins(kind, row, y, total)

    def check_origins(self, kind, row, y, total):
        low, high = bounds(kind)
        for j in sorted({0, 1, total // 3, total - 1}):
            if 0 <= j < total:
                x = origin_at(kind, row, y, j)
                self.assertTrue(low <= x <= high)
                self.assertEqual(after(row, x), y)
        if total > 1:
            step = origin_at(kind, row, y, 1) - origin_at(kind, row, y, 0)
            self.assertEqual(origin_at(kind, row, y, total - 1) - origin_at(kind, row, y, 0), step * (total - 1))
            self.assertGreater(origin_at(kind, row, y, total - 1) + step, high)
            self.assertLess(origin_at(kind, row, y, 0) - step, low)
        check_bound(self, origin_at, {"kind": kind, "kinds": row, "y": y, "j": total}, "j")

    def test_apart(self):
        rows = short_rows(self.KINDS)
        for place, (kind, one) in enumerate(self.cases()):
            for other in (rows[place * 5 % len(rows)], rows[place * 7 % len(rows)], [one[0]], [one[-1]], one[::-1]):
                total = apart_total(kind, one, other)
                seen = sum(after(one, x) != after(other, x) for x in self.ends(kind, []))
                self.assertTrue(total > 0 or seen == 0)
                self.assertEqual(apart_total(kind, other, one), total)
                found = [apart_at(kind, one, other, j) for j in sorted({0, total // 3, total - 1}) if 0 <= j < total]
                self.assertEqual(found, sorted(found))
                for x in found:
                    self.assertNotEqual(after(one, x), after(other, x))
                if kind.parts()[0] == 8:
                    apart = [x for x in values(kind) if after(one, x) != after(other, x)]
                    self.assertEqual(total, len(apart))
                    self.assertEqual(found, [apart[j] for j in sorted({0, total // 3, total - 1}) if 0 <= j < total])

    def test_apart_by_formulas(self):
        for bits in (8, 64, 128):
            plain, signed = Kind(bits, False), Kind(bits, True)
            half = 2 ** (bits - 1)
            self.assertEqual(apart_total(plain, [signed], [plain]), half)
            self.assertEqual(apart_at(plain, [signed], [plain], 5), half + 5)
            self.assertEqual(apart_at(signed, [signed], [plain], 5), 5 - half)
            self.assertEqual(apart_total(plain, [Kind(4, False)], [plain]), 2 ** bits - 16)
            self.assertEqual(apart_total(plain, [Kind(4, False)], [Kind(5, False)]), 2 ** (bits - 1))
            self.assertEqual(apart_at(plain, [Kind(4, False)], [Kind(5, False)], 17), 32 + 17)
            self.assertEqual(apart_total(signed, [signed, plain], [plain]), 0)
            self.assertEqual(shortest_for(plain, [signed]), [signed])
            self.assertEqual(shortest_for(signed, [Kind(bits, False)] * 20), [plain])

    def test_shortest_for_has_the_same_results(self):
        for kind, row in self.cases():
            best = shortest_for(kind, row)
            self.assertEqual(apart_total(kind, row, best), 0)
            self.assertLessEqual(len(best), len(shortest(row)))
            self.assertEqual(results(kind, best), results(kind, row))


class CallsTest(unittest.TestCase):

    def test_arguments_are_not_changed_and_lists_are_new(self):
        for row in ([SMALL], [SMALL, WORD], [WORD, BYTE, SMALL, WORD]):
            kept = list(row)
            for call in (
                lambda: shortest(row), lambda: shortest_for(BYTE, row), lambda: survivors(BYTE, row), lambda: results(BYTE, row),
            ):
                found = call()
                self.assertIs(type(found), list)
                self.assertIsNot(found, row)
                told = list(found)
                found.append(BYTE)
                self.assertEqual(call(), told)
            do_same(row, row)
            apart_at(WORD, row, [WORD], 0)
            origin_at(WORD, row, 5, 0)
            self.assertEqual(len(row), len(kept))
            self.assertTrue(all(one is other for one, other in zip(row, kept)))

    def test_spans_are_tuples(self):
        for spans in (survivors(WORD, [SMALL, WORD]), results(SMALL, [WORD])):
            self.assertTrue(all(type(span) is tuple for span in spans))


class WrongArgumentsTest(unittest.TestCase):

    def test_rows(self):
        check_bounds(self, shortest, {"kinds": [BYTE] * 20}, {"kinds": no_rows()})
        right = {"kinds": [BYTE] * 20, "others": [SMALL]}
        check_bounds(self, do_same, right, {"kinds": no_rows(), "others": no_rows()})

    def test_a_kind_and_a_row(self):
        for function in (survivors, survivor_total, results, shortest_for):
            check_bounds(self, function, {"kind": WORD, "kinds": [BYTE] * 20}, {"kind": no_kinds(), "kinds": no_rows()})

    def test_origins(self):
        wrong = {"kind": no_kinds(), "kinds": no_rows(), "y": no_integers()}
        for y in (-1, 10 ** 40, HUGE):
            check_bounds(self, origin_total, {"kind": WORD, "kinds": [SMALL], "y": y}, wrong)
        right = {"kind": WORD, "kinds": [SMALL], "y": -1, "j": 255}
        check_bounds(self, origin_at, right, {**wrong, "j": no_numbers(256)})
        for y in (128, -129, HUGE):
            for j in no_numbers(0) + [0, 1]:
                check_bound(self, origin_at, {**right, "y": y, "j": j}, "j")

    def test_two_rows(self):
        wrong = {"kind": no_kinds(), "kinds": no_rows(), "others": no_rows()}
        right = {"kind": BYTE, "kinds": [SMALL], "others": [BYTE]}
        check_bounds(self, apart_total, right, wrong)
        check_bounds(self, apart_at, {**right, "j": 127}, {**wrong, "j": no_numbers(128)})
        for j in no_numbers(0) + [0, 1]:
            check_bound(self, apart_at, {**right, "others": [SMALL], "j": j}, "j")


if __name__ == "__main__":
    unittest.main()
