"""Loops: points 29 to 33, against rounds done one by one, and by formulas for wide kinds."""

import unittest

from farwrap.kinds import Kind
from farwrap.loops import endless_starts, end_value, first_round, round_value, rounds, rounds_within, wraps
from tests.samples import BYTE, HUGE, SMALL, WIDE_KINDS, all_kinds, bounds, shares, values, wrap
from tests.walks import COMPARED, all_loops, run, some_loops
from tests.wrong import check_bound, check_bounds, no_counts, no_kinds, no_numbers, no_relations, not_loops, not_values


def pairs_for(kind):
    low, high = bounds(kind)
    if kind.parts()[0] <= 2:
        return [(one, two) for one in values(kind) for two in values(kind)]
    middle = (low + high) // 2
    return [(low, high), (low + 1, middle), (middle, high - 1), (high, high), (middle, middle), (high, low)]


class SmallKindsTest(unittest.TestCase):

    def check_loop(self, kind, loop):
        size = 2 ** kind.parts()[0]
        # Behind so many rounds, each value that comes at all has come twice.
        found, end = run(kind, loop, 2 * size + 3)
        total = None if end is None else len(found)
        place = (kind.parts(), loop)
        self.assertEqual(rounds(kind, loop), total, place)
        self.assertEqual(end_value(kind, loop), end, place)
        for n in shares(range(len(found)), 5):
            self.assertEqual(round_value(kind, loop, n), found[n], place)
        if total is not None:
            for n in (total, total + 1, total + size, HUGE):
                self.assertIsNone(round_value(kind, loop, n), place)
        low, high = bounds(kind)
        bad = [not low <= x + loop[3] <= high for x in found]
        for n in shares(range(len(found) + 1), 5):
            self.assertEqual(wraps(kind, loop, n), sum(bad[:n]), place)
        for one, two in pairs_for(kind):
            within = [one <= x <= two for x in found]
            self.assertEqual(first_round(kind, loop, one, two), within.index(True) if True in within else None, place)
            for n in shares(range(len(found) + 1), 3):
                self.assertEqual(rounds_within(kind, loop, one, two, n), sum(within[:n]), place)

    def test_all_loops_of_one_to_three_bits(self):
        for kind in all_kinds(3):
            for loop in all_loops(kind):
                self.check_loop(kind, loop)

    def test_loops_of_four_to_eight_bits(self):
        for kind in all_kinds(8)[6:]:
            for loop in some_loops(kind, 300):
                self.check_loop(kind, loop)

    def test_endless_starts(self):
        for kind in all_kinds(4):
            for word in COMPARED:
                for b in values(kind):
                    for c in values(kind):
                        self.check_starts(kind, word, b, c)
        for kind in all_kinds(6)[8:]:
            for _, word, b, c in some_loops(kind, 200):
                self.check_starts(kind, word, b, c)

    def check_starts(self, kind, word, b, c):
        most = 2 ** kind.parts()[0]
        total = sum(run(kind, (a, word, b, c), most)[1] is None for a in values(kind))
        self.assertEqual(endless_starts(kind, word, b, c), total, (kind.parts(), word, b, c))


class EdgesTest(unittest.TestCase):

    def test_examples(self):
        self.assertEqual(rounds(BYTE, (0, "<", 10, 3)), 4)
        self.assertIsNone(rounds(BYTE, (250, "<=", 255, 1)))
        self.assertEqual(rounds(SMALL, (120, ">", 0, 5)), 2)
        self.assertEqual(round_value(BYTE, (0, "<", 10, 3), 3), 9)
        self.assertEqual(end_value(SMALL, (120, ">", 0, 5)), -126)
        self.assertEqual(wraps(SMALL, (120, ">", 0, 5), 2), 1)
        self.assertEqual(first_round(BYTE, (0, "!=", 1, 7), 250, 255), 36)
        self.assertEqual(rounds_within(BYTE, (0, "!=", 1, 7), 250, 255, 100), 2)
        self.assertEqual(endless_starts(BYTE, "!=", 6, 2), 128)
        self.assertEqual(endless_starts(BYTE, "<", 250, 8), 64)

    def test_arguments_by_name(self):
        named = {"loop": (0, "!=", 1, 7), "kind": BYTE}
        self.assertEqual((rounds(**named), end_value(**named), round_value(n=36, **named)), (183, 1, 252))
        self.assertEqual((wraps(n=100, **named), wraps(n=183, **named)), (2, 5))
        self.assertEqual((first_round(high=255, low=250, **named), rounds_within(n=100, high=255, low=250, **named)), (36, 2))
        self.assertEqual(endless_starts(c=2, b=6, word="!=", kind=BYTE), 128)

    def test_no_round_where_the_comparison_does_not_hold_at_first(self):
        for kind in (BYTE, SMALL, *WIDE_KINDS):
            low, high = bounds(kind)
            for a, word, b in ((5, "<", 5), (6, "<=", 5), (5, ">", 5), (4, ">=", 5), (4, "==", 5), (5, "!=", 5)):
                for c in (0, 1, low, high):
                    loop = (a, word, b, c)
                    self.assertEqual((rounds(kind, loop), end_value(kind, loop), wraps(kind, loop, 0)), (0, a, 0))
                    self.assertIsNone(round_value(kind, loop, 0))
                    self.assertIsNone(first_round(kind, loop, low, high))
                    self.assertEqual(rounds_within(kind, loop, low, high, 0), 0)
                    check_bound(self, wraps, {"kind": kind, "loop": loop, "n": 1}, "n")

    def test_comparisons_that_always_hold(self):
        for kind in (BYTE, SMALL, *WIDE_KINDS):
            low, high = bounds(kind)
            for c in (0, 1, 3, low, high):
                for word, b in (("<=", high), (">=", low)):
                    loop = (high // 2, word, b, c)
                    self.assertIsNone(rounds(kind, loop))
                    self.assertIsNone(end_value(kind, loop))
                    self.assertEqual(endless_starts(kind, word, b, c), high - low + 1)
                    for n in (0, 1, 10 ** 40, HUGE):
                        self.assertEqual(round_value(kind, loop, n), wrap(kind, high // 2 + n * c))
                        self.assertEqual(rounds_within(kind, loop, low, high, n), n)
                        passed = (high // 2 + n * c - low) // (high - low + 1)
                        self.assertEqual(wraps(kind, loop, n), abs(passed))

    def test_signed_kinds_are_compared_with_their_signs(self):
        self.assertEqual(rounds(SMALL, (-5, "<", 3, 2)), 4)
        self.assertEqual(rounds(BYTE, (251, "<", 3, 2)), 0)
        self.assertEqual(rounds(SMALL, (5, ">", -3, -2)), 4)
        self.assertEqual(rounds(SMALL, (100, "<", 101, 28)), 1 + rounds(SMALL, (-128, "<", 101, 28)))

    def test_additions_of_zero(self):
        for kind in (BYTE, SMALL, *WIDE_KINDS):
            for word, b in (("<", 6), ("<=", 5), ("==", 5), ("!=", 6), (">=", 5), (">", 4)):
                loop = (5, word, b, 0)
                self.assertIsNone(rounds(kind, loop))
                self.assertEqual((round_value(kind, loop, HUGE), wraps(kind, loop, HUGE)), (5, 0))
                self.assertEqual((first_round(kind, loop, 5, 5), first_round(kind, loop, 6, 9)), (0, None))
                self.assertEqual(rounds_within(kind, loop, 5, 9, HUGE), HUGE)

    def test_large_additions_of_unsigned_kinds_wrap_upward(self):
        self.assertEqual(wraps(BYTE, (10, "!=", 4, 255), 6), 6)
        self.assertEqual(wraps(SMALL, (10, "!=", 4, -1), 6), 0)

    def test_high_less_than_low(self):
        for kind in (BYTE, SMALL, *WIDE_KINDS):
            low, high = bounds(kind)
            for loop in ((0, "<=", high, 1), (0, "!=", 5, 1), (0, "==", 1, 1)):
                for one, two in ((high, low), (1, 0), (high, high - 1)):
                    self.assertIsNone(first_round(kind, loop, one, two))
                    self.assertEqual(rounds_within(kind, loop, one, two, 0), 0)
                    if loop[1] == "<=":
                        self.assertEqual(rounds_within(kind, loop, one, two, HUGE), 0)

    def test_first_round_beyond_the_end(self):
        self.assertEqual(first_round(BYTE, (0, "<", 10, 3), 9, 9), 3)
        self.assertIsNone(first_round(BYTE, (0, "<", 10, 3), 12, 12))
        self.assertIsNone(first_round(BYTE, (0, "<", 10, 3), 10, 255))
        self.assertIsNone(first_round(BYTE, (0, "<=", 255, 2), 7, 7))


class WideKindsTest(unittest.TestCase):

    ADDED = [
        1, 3, 5, 2 ** 20, 2 ** 63 - 25, 2 ** 31 + 1, 6 * 10 ** 18, 10 ** 9 + 7, 12345678901234567,
        2 ** 62 + 1, 2 ** 62, 2 ** 61 * 3, 10 ** 17,
    ]

    def loops(self):
        for kind in WIDE_KINDS:
            low, high = bounds(kind)
            size = high - low + 1
            added = self.ADDED + [wrap(kind, c) for c in (-1, -3, size // 3, size // 3 + 1, size // 2 + 1, size - 5)]
            for place, c in enumerate(added):
                for at, word in enumerate(COMPARED):
                    a = (0, 1, low, high, high // 3, low // 2 + 7, 10 ** 15)[(place + at) % 7]
                    b = (high, high // 2, 5, low + 1, 10 ** 18, high - 3, 0)[(place * 2 + at) % 7]
                    yield kind, (a, word, b, c)

    def ranges(self, kind):
        low, high = bounds(kind)
        return [(low, high), (0, 10 ** 6), (high // 2, high // 2 + 2 ** 40), (low, low // 2 - 1 if low else 9), (high, high)]

    def test_rounds_by_formulas(self):
        for kind in WIDE_KINDS:
            low, high = bounds(kind)
            size = high - low + 1
            for c in (1, 3, 2 ** 30, 10 ** 9 + 7, high // 9):
                self.assertEqual(rounds(kind, (0, "<=", 10 ** 18, c)), 10 ** 18 // c + 1)
                self.assertEqual(end_value(kind, (0, "<", 10 ** 18, c)), -(-10 ** 18 // c) * c)
                self.assertEqual(rounds(kind, (0, "!=", c * (high // c), c)), high // c)
                self.assertEqual(rounds(kind, (low, "!=", high, c)), None if c % 2 == 0 else -pow(c, -1, size) % size)
            self.assertEqual(rounds(kind, (0, "!=", 1, 3)), pow(3, -1, size))
            self.assertIsNone(rounds(kind, (0, "!=", 1, 2)))
            self.assertEqual(rounds(kind, (7, "==", 7, 2)), 1)
            self.assertEqual(rounds(kind, (low, "<", high, 1)), size - 1)
            self.assertEqual(rounds(kind, (low, "<=", high - 1, 1)), size - 1)
            self.assertIsNone(rounds(kind, (low, "<", high, 2)))

    def test_the_end_is_the_first_value_that_does_not_hold(self):
        for kind, loop in self.loops():
            total = rounds(kind, loop)
            a, word, b, c = loop
            size = 2 ** kind.parts()[0]
            place = (kind.parts(), loop)
            if total is None:
                self.assertIsNone(end_value(kind, loop))
                self.assertTrue(COMPARED[word](round_value(kind, loop, HUGE), b), place)
                continue
            end = end_value(kind, loop)
            self.assertLess(total, size)
            self.assertEqual(end, wrap(kind, a + total * c))
            self.assertFalse(COMPARED[word](end, b), place)
            for n in {i * (total - 1) // 39 for i in range(40)} if total else ():
                x = round_value(kind, loop, n)
                self.assertEqual(x, wrap(kind, a + n * c))
                self.assertTrue(COMPARED[word](x, b), place)
            self.check_none_ahead(kind, loop, total)

    def check_none_ahead(self, kind, loop, total):
        """Check that the comparison holds for the values of all rounds, as they are counted."""
        a, word, b, c = loop
        low, high = bounds(kind)
        holding = {
            "<": [(low, b - 1)], "<=": [(low, b)], "==": [(b, b)], "!=": [(low, b - 1), (b + 1, high)],
            ">=": [(b, high)], ">": [(b + 1, high)],
        }[word]
        ranges = [(one, two) for one, two in holding if low <= one <= two <= high]
        self.assertEqual(sum(rounds_within(kind, loop, one, two, total) for one, two in ranges), total)

    def counts(self, kind, loop):
        total = rounds(kind, loop)
        if total is None:
            return (0, 1, 10 ** 20, 2 ** 128 + 3, HUGE)
        return sorted({0, total, total // 2, total // 3, min(total, 10 ** 6)})

    def test_rounds_within_neighbouring_ranges_add_up(self):
        for kind, loop in self.loops():
            low, high = bounds(kind)
            for n in self.counts(kind, loop):
                self.assertEqual(rounds_within(kind, loop, low, high, n), n)
                for one, two in self.ranges(kind)[1:]:
                    total = rounds_within(kind, loop, one, two, n)
                    middle = (one + two) // 2
                    parts = rounds_within(kind, loop, one, middle, n)
                    parts += rounds_within(kind, loop, middle + 1, two, n) if middle < two else 0
                    self.assertEqual(parts, total)

    def test_the_first_round_is_one_with_none_ahead(self):
        for kind, loop in self.loops():
            for one, two in self.ranges(kind):
                n = first_round(kind, loop, one, two)
                if n is None:
                    total = rounds(kind, loop)
                    most = 2 ** kind.parts()[0] if total is None else total
                    self.assertEqual(rounds_within(kind, loop, one, two, most), 0)
                else:
                    self.assertTrue(one <= round_value(kind, loop, n) <= two)
                    self.assertEqual(rounds_within(kind, loop, one, two, n), 0)
                    self.assertEqual(rounds_within(kind, loop, one, two, n + 1), 1)

    def test_wraps_make_up_for_the_difference(self):
        for kind, loop in self.loops():
            a, _, _, c = loop
            size = 2 ** kind.parts()[0]
            for n in self.counts(kind, loop):
                count = wraps(kind, loop, n)
                self.assertEqual(a + n * c - (count if c > 0 else -count) * size, wrap(kind, a + n * c))

    def test_endless_starts_by_formulas(self):
        for kind in WIDE_KINDS:
            low, high = bounds(kind)
            size = high - low + 1
            for k in (0, 1, 20, 60):
                c = 3 * 2 ** k if 3 * 2 ** k <= high else 2 ** k
                power = 2 ** k
                self.assertEqual(endless_starts(kind, "!=", 6, c), (power - 1) * (size // power))
                self.assertEqual(endless_starts(kind, "==", 6, c), 0)
                for stops in (0, 1, 5, 2 ** 20):
                    total = max(0, power - stops) * (size // power)
                    self.assertEqual(endless_starts(kind, "<=", high - stops, c), total)
                    self.assertEqual(endless_starts(kind, ">=", low + stops, c), total)
                    if stops:
                        self.assertEqual(endless_starts(kind, "<", high - stops + 1, c), total)
                        self.assertEqual(endless_starts(kind, ">", low + stops - 1, c), total)
            self.assertEqual(endless_starts(kind, "==", 6, 0), 1)
            self.assertEqual(endless_starts(kind, "<", 6, 0), 6 - low)

    def test_endless_starts_tell_what_rounds_tell(self):
        for kind, (a, word, b, c) in self.loops():
            total = endless_starts(kind, word, b, c)
            size = 2 ** kind.parts()[0]
            power = next(k for k in range(kind.parts()[0] + 1) if c % 2 ** (k + 1) or k == kind.parts()[0])
            if power <= 3:
                starts = [wrap(kind, a + i) for i in range(2 ** power)]
                endless = sum(rounds(kind, (start, word, b, c)) is None for start in starts)
                self.assertEqual(total, endless * (size // 2 ** power))


class WrongArgumentsTest(unittest.TestCase):

    def test_functions_of_a_loop(self):
        for kind in (SMALL, Kind(1, False), Kind(128, True)):
            low, high = bounds(kind)
            right = {"kind": kind, "loop": (low, "<", high, high)}
            for function in (rounds, end_value):
                check_bounds(self, function, right, {"kind": no_kinds(), "loop": not_loops(kind)})

    def test_round_value(self):
        for loop in ((120, ">", 0, 5), (0, ">=", -128, 5)):
            for n in (0, 1, 2, HUGE):
                right = {"kind": SMALL, "loop": loop, "n": n}
                check_bounds(self, round_value, right, {"kind": no_kinds(), "loop": not_loops(SMALL), "n": no_counts()})

    def test_wraps(self):
        for loop, n, wrong in (((120, ">", 0, 5), 2, no_numbers(3)), ((0, ">=", -128, 5), HUGE, no_counts())):
            right = {"kind": SMALL, "loop": loop, "n": n}
            check_bounds(self, wraps, right, {"kind": no_kinds(), "loop": not_loops(SMALL), "n": wrong})

    def wrong_within(self):
        return {"kind": no_kinds(), "loop": not_loops(SMALL), "low": not_values(SMALL), "high": not_values(SMALL)}

    def test_first_round(self):
        right = {"kind": SMALL, "loop": (120, ">", 0, 5), "low": 125, "high": 127}
        check_bounds(self, first_round, right, self.wrong_within())
        check_bounds(self, first_round, {**right, "low": 127, "high": -128}, self.wrong_within())

    def test_rounds_within(self):
        right = {"kind": SMALL, "loop": (120, ">", 0, 5), "low": 125, "high": 127, "n": 2}
        check_bounds(self, rounds_within, right, {**self.wrong_within(), "n": no_numbers(3)})
        right = {"kind": SMALL, "loop": (120, "==", 120, 8), "low": 9, "high": -9, "n": 1}
        check_bounds(self, rounds_within, right, {"n": no_numbers(2)})
        right = {"kind": SMALL, "loop": (120, "!=", 1, 8), "low": 9, "high": -9, "n": HUGE}
        check_bounds(self, rounds_within, right, {"n": no_counts()})

    def test_endless_starts(self):
        for kind in (SMALL, Kind(1, True), Kind(128, False)):
            low, high = bounds(kind)
            right = {"kind": kind, "word": "<", "b": high, "c": low}
            check_bounds(self, endless_starts, right, {
                "kind": no_kinds(), "word": no_relations(), "b": not_values(kind), "c": not_values(kind),
            })


if __name__ == "__main__":
    unittest.main()
