"""Kinds, wrapping and casts: points 2 to 6."""

import copy
import unittest
from unittest import mock

from farwrap.errors import InvalidKind, WrapError
from farwrap.kinds import Kind, cast, greatest, is_value, least, wrapped
from tests.samples import BYTE, HUGE, SMALL, WORD, all_kinds, bounds
from tests.wrong import (
    check_bounds, nested_list, no_booleans, no_integers, no_kinds, no_rows, other_objects,
)


class KindTest(unittest.TestCase):

    def check_error(self, part, *parts, **named):
        with self.assertRaises(InvalidKind) as caught:
            Kind(*parts, **named)
        self.assertEqual(caught.exception.part, part)

    def test_parts(self):
        for bits in range(1, 129):
            for is_signed in (False, True):
                parts = Kind(bits, is_signed).parts()
                self.assertIs(type(parts), tuple)
                self.assertEqual(parts, (bits, is_signed))
                self.assertIs(parts[1], is_signed)
                self.assertEqual(Kind(is_signed=is_signed, bits=bits).parts(), parts)

    def test_bits_beyond_the_limits(self):
        for bits in (0, 129, -1, -8, 130, 256, 2 ** 128, HUGE, -HUGE):
            self.check_error("bits", bits, False)
            self.check_error("bits", bits=bits, is_signed=True)

    def test_bits_that_are_no_integer(self):
        for bits in no_integers():
            self.check_error("bits", bits, False)

    def test_a_sign_that_is_not_true_or_false(self):
        for is_signed in no_booleans():
            self.check_error("is_signed", 8, is_signed)
            self.check_error("is_signed", is_signed=is_signed, bits=8)

    def test_bits_are_checked_first(self):
        for bits in no_integers() + [0, 129]:
            for is_signed in (0, 1, None, [], {}, nested_list()):
                self.check_error("bits", bits, is_signed)

    def test_errors_are_of_the_base(self):
        with self.assertRaises(WrapError):
            Kind(0, False)

    def test_equal_parts_make_equal_kinds(self):
        kinds = all_kinds()
        for kind in kinds:
            for other in kinds:
                self.assertIs(kind == other, kind.parts() == other.parts())
                self.assertIs(kind != other, kind.parts() != other.parts())
        self.assertIs(Kind(8, False) == Kind(8, False), True)
        self.assertEqual([Kind(8, False), Kind(8, True)], [BYTE, SMALL])

    def test_a_kind_is_equal_to_nothing_else(self):
        for other in other_objects() + [8, False, True, 0, "", "byte", (8, False), [8, False], [BYTE], nested_list()]:
            self.assertIs(BYTE == other, False)
            self.assertIs(other == BYTE, False)
            self.assertIs(BYTE != other, True)
        self.assertIs(BYTE == mock.ANY, False)

    def test_a_kind_equals_its_copy(self):
        self.assertEqual(copy.deepcopy(BYTE), BYTE)


class ValuesTest(unittest.TestCase):

    def test_least_and_greatest(self):
        for kind in all_kinds():
            self.assertEqual((least(kind), greatest(kind)), bounds(kind))
            self.assertEqual((least(kind=kind), greatest(kind=kind)), bounds(kind))

    def test_edges_of_one_and_128_bits(self):
        for kind, low, high in (
            (Kind(1, False), 0, 1),
            (Kind(1, True), -1, 0),
            (Kind(128, False), 0, 340282366920938463463374607431768211455),
            (
                Kind(128, True),
                -170141183460469231731687303715884105728,
                170141183460469231731687303715884105727,
            ),
        ):
            self.assertEqual((least(kind), greatest(kind)), (low, high))

    def test_values_end_at_the_least_and_the_greatest(self):
        for kind in all_kinds():
            low, high = bounds(kind)
            for x in (low, low + 1, high - 1, high):
                self.assertIs(is_value(kind, x), True)
                self.assertIs(is_value(x=x, kind=kind), True)
            for x in (low - 1, high + 1, low - 2 ** 128, high + 2 ** 128, HUGE, -HUGE):
                self.assertIs(is_value(kind, x), False)

    def test_other_objects_are_no_values(self):
        for kind in (BYTE, SMALL, Kind(1, False), Kind(1, True)):
            for x in no_integers():
                self.assertIs(is_value(kind, x), False)

    def test_wrong_kinds(self):
        for function in (least, greatest):
            check_bounds(self, function, {"kind": BYTE}, {"kind": no_kinds()})
        check_bounds(self, is_value, {"kind": BYTE, "x": 5}, {"kind": no_kinds()})
        check_bounds(self, is_value, {"kind": BYTE, "x": None}, {"kind": no_kinds()})


class WrappedTest(unittest.TestCase):

    def test_examples(self):
        self.assertEqual(wrapped(SMALL, 200), -56)
        self.assertEqual(wrapped(n=200, kind=SMALL), -56)

    def test_small_kinds(self):
        for kind in all_kinds(5):
            low, high = bounds(kind)
            for n in range(-100, 101):
                equal = [value for value in range(low, high + 1) if (value - n) % 2 ** kind.parts()[0] == 0]
                self.assertEqual([wrapped(kind, n)], equal)

    def test_edges_of_all_kinds(self):
        for kind in all_kinds():
            low, high = bounds(kind)
            size = 2 ** kind.parts()[0]
            for n, value in ((low, low), (high, high), (low - 1, high), (high + 1, low), (0, 0), (size, 0)):
                self.assertEqual(wrapped(kind, n), value)

    def test_integers_of_a_thousand_digits(self):
        for kind in all_kinds():
            low, high = bounds(kind)
            size = 2 ** kind.parts()[0]
            for n in (HUGE, -HUGE, HUGE * 9 + 7, -HUGE * 7 - 3):
                value = wrapped(kind, n)
                self.assertTrue(low <= value <= high)
                self.assertEqual((value - n) % size, 0)

    def test_wrong_arguments(self):
        right = {"kind": SMALL, "n": 200}
        check_bounds(self, wrapped, right, {"kind": no_kinds(), "n": no_integers()})


class CastTest(unittest.TestCase):

    def test_examples(self):
        self.assertEqual(cast([SMALL, WORD], 200), 65480)
        self.assertEqual(cast(n=200, kinds=[SMALL, WORD]), 65480)

    def test_the_kinds_follow_one_another(self):
        self.assertEqual(cast([WORD, SMALL], 200), -56)
        self.assertEqual(cast([BYTE, Kind(16, True)], -1), 255)
        self.assertEqual(cast([SMALL, Kind(128, False)], 255), 2 ** 128 - 1)
        self.assertEqual(cast([Kind(1, True), Kind(128, False)], 3), 2 ** 128 - 1)
        self.assertEqual(cast([Kind(1, False), Kind(128, True)], 3), 1)

    def test_one_kind_wraps(self):
        for kind in all_kinds(6):
            for n in range(-70, 71):
                self.assertEqual(cast([kind], n), wrapped(kind, n))

    def test_rows_of_casts_of_small_kinds(self):
        kinds = all_kinds(3)
        for one in kinds:
            for two in kinds:
                for three in kinds:
                    for n in range(-9, 10):
                        expected = wrapped(three, wrapped(two, wrapped(one, n)))
                        self.assertEqual(cast([one, two, three], n), expected)

    def test_rows_of_twenty_kinds(self):
        self.assertEqual(cast([BYTE] * 19 + [SMALL], 200), -56)
        self.assertEqual(cast([SMALL] + [WORD] * 19, 200), 65480)
        self.assertEqual(cast([Kind(128, True)] * 20, HUGE), wrapped(Kind(128, True), HUGE))

    def test_the_list_is_not_changed(self):
        kinds = [SMALL, WORD]
        for n in (200, HUGE):
            cast(kinds, n)
            self.assertEqual(len(kinds), 2)
            self.assertIs(kinds[0], SMALL)
            self.assertIs(kinds[1], WORD)

    def test_equal_calls_have_equal_results(self):
        self.assertEqual(cast([SMALL, WORD], 200), cast([Kind(8, True), Kind(16, False)], 200))

    def test_wrong_arguments(self):
        right = {"kinds": [SMALL, WORD], "n": 200}
        check_bounds(self, cast, right, {"kinds": no_rows(), "n": no_integers()})


if __name__ == "__main__":
    unittest.main()
