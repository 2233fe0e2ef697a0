"""Generators: points 34 to 37, against steps done one by one, and by formulas for wide kinds."""

import unittest

from farwrap.generators import ring_lengths, ring_of, ring_values, stepped
from farwrap.kinds import Kind
from tests.polynomials import families_of
from tests.samples import BYTE, HUGE, SMALL, WIDE_KINDS, all_kinds, bounds, shares, values, wrap
from tests.walks import all_generators, lead_and_length, path, some_generators
from tests.wrong import check_bounds, no_integers, no_kinds, not_generators, not_values

NUMBERS = (1, 2, 5, 10 ** 9, 2 ** 63 + 1, 2 ** 127 - 5, 10 ** 60, HUGE)


def generators_for(kind):
    return all_generators(kind) if kind.parts()[0] <= 3 else some_generators(kind, 60)


def small_cases():
    for kind in all_kinds(6) + [BYTE, SMALL]:
        for generator in generators_for(kind):
            yield kind, generator


class SmallKindsTest(unittest.TestCase):

    def test_stepped(self):
        for kind, generator in small_cases():
            for x in shares(values(kind), 9):
                found = path(kind, generator, x, 2 * 2 ** kind.parts()[0] + 4)
                for n in shares(range(len(found)), 20):
                    self.assertEqual(stepped(kind, generator, x, n), found[n], (kind.parts(), generator, x, n))
                    if generator[0] % 2:
                        self.assertEqual(stepped(kind, generator, found[n], -n), x, (kind.parts(), generator, x, n))

    def test_stepped_very_far(self):
        for kind, generator in small_cases():
            for x in shares(values(kind), 3):
                found = path(kind, generator, x, 2 ** kind.parts()[0] * 2 + 4)
                lead, length = lead_and_length(found)
                for n in (10 ** 20, 10 ** 60 + 7, HUGE, HUGE + 1):
                    self.assertEqual(stepped(kind, generator, x, n), found[lead + (n - lead) % length])
                    if generator[0] % 2:
                        self.assertEqual(stepped(kind, generator, x, -n), found[-n % length])

    def test_rings(self):
        for kind, generator in small_cases():
            for x in shares(values(kind), 9):
                found = path(kind, generator, x, 2 * 2 ** kind.parts()[0] + 4)
                lead, length = lead_and_length(found)
                place = (kind.parts(), generator, x)
                self.assertEqual(ring_of(kind, generator, x), (lead, length), place)
                ring = families_of(kind, found[lead:lead + length])
                self.assertEqual(ring_values(kind, generator, x), ring, place)
                self.assertLessEqual(len(ring), 2)

    def test_ring_lengths(self):
        for kind, generator in small_cases():
            rings = set()
            for x in values(kind):
                found = path(kind, generator, x, 2 * 2 ** kind.parts()[0] + 4)
                lead, length = lead_and_length(found)
                rings.add(frozenset(found[lead:lead + length]))
            lengths = [len(ring) for ring in rings]
            counts = sorted((length, lengths.count(length)) for length in set(lengths))
            self.assertEqual(ring_lengths(kind, generator), counts, (kind.parts(), generator))


class EdgesTest(unittest.TestCase):

    def test_examples(self):
        self.assertEqual(stepped(BYTE, (5, 3), 1, 2), 43)
        self.assertEqual(stepped(BYTE, (5, 3), 8, -1), 1)
        self.assertEqual(ring_of(BYTE, (5, 3), 1), (0, 256))
        self.assertEqual(ring_of(BYTE, (4, 3), 1), (4, 1))
        self.assertEqual([stepped(BYTE, (4, 3), 1, n) for n in range(6)], [1, 7, 31, 127, 255, 255])
        self.assertEqual(ring_lengths(BYTE, (5, 0)), [(1, 4), (2, 2), (4, 2), (8, 2), (16, 2), (32, 2), (64, 2)])
        self.assertEqual(ring_values(BYTE, (5, 0), 1), [(1, 2)])
        self.assertEqual(ring_values(BYTE, (3, 0), 1), [(1, 3), (3, 3)])
        self.assertEqual(ring_values(BYTE, (4, 3), 1), [(255, 8)])

    def test_arguments_by_name(self):
        named = {"x": 1, "generator": (5, 3), "kind": BYTE}
        self.assertEqual((stepped(n=2, **named), ring_of(**named), ring_values(**named)), (43, (0, 256), [(0, 0)]))
        self.assertEqual(ring_lengths(generator=(5, 3), kind=BYTE), [(256, 1)])

    def test_results_are_tuples_and_new_lists(self):
        self.assertIs(type(ring_of(BYTE, (3, 0), 1)), tuple)
        for call in (lambda: ring_lengths(BYTE, (3, 0)), lambda: ring_values(BYTE, (3, 0), 1)):
            found = call()
            self.assertIs(type(found), list)
            self.assertTrue(all(type(row) is tuple for row in found))
            kept = list(found)
            found.append((0, 0))
            self.assertEqual(call(), kept)

    def test_families_are_of_values_of_signed_kinds_too(self):
        self.assertEqual(ring_values(SMALL, (4, 3), 1), [(255, 8)])
        self.assertEqual(ring_values(SMALL, (-1, 0), -1), [(1, 8), (255, 8)])
        self.assertEqual(ring_values(SMALL, (1, -128), -1), [(127, 7)])

    def test_kinds_of_one_bit(self):
        for kind in (Kind(1, False), Kind(1, True)):
            one = wrap(kind, 1)
            self.assertEqual(ring_lengths(kind, (one, one)), [(2, 1)])
            self.assertEqual(ring_lengths(kind, (one, 0)), [(1, 2)])
            self.assertEqual(ring_lengths(kind, (0, one)), [(1, 1)])
            self.assertEqual((ring_of(kind, (0, one), 0), ring_of(kind, (0, one), one)), ((1, 1), (0, 1)))
            self.assertEqual((stepped(kind, (one, one), 0, -1), stepped(kind, (one, one), 0, HUGE)), (one, 0))


class WideKindsTest(unittest.TestCase):

    def cases(self, count=25):
        for kind in WIDE_KINDS:
            low, high = bounds(kind)
            starts = (0, 1, low, high, high // 3, low // 5 + 2 ** 40)
            for place, generator in enumerate(some_generators(kind, count)):
                for x in (starts[place % 6], starts[place * 5 % 6 - 1]):
                    yield kind, generator, x

    def test_steps_add_up_and_lead_back(self):
        for kind, generator, x in self.cases(120):
            for n in NUMBERS:
                y = stepped(kind, generator, x, n)
                for m in (1, 77, 10 ** 30, HUGE):
                    self.assertEqual(stepped(kind, generator, y, m), stepped(kind, generator, x, n + m))
                if generator[0] % 2:
                    self.assertEqual(stepped(kind, generator, y, -n), x)
                    self.assertEqual(stepped(kind, generator, y, 3 - n), stepped(kind, generator, x, 3))

    def test_single_steps(self):
        for kind, generator, x in self.cases(120):
            found = path(kind, generator, x, 10)
            self.assertEqual([stepped(kind, generator, x, n) for n in range(10)], found)

    def test_steps_by_formulas(self):
        for kind in WIDE_KINDS:
            bits = kind.parts()[0]
            for n in NUMBERS:
                self.assertEqual(stepped(kind, (1, 7), 5, n), wrap(kind, 5 + 7 * n))
                self.assertEqual(stepped(kind, (1, 7), 5, -n), wrap(kind, 5 - 7 * n))
                self.assertEqual(stepped(kind, (3, 0), 1, n), wrap(kind, pow(3, n, 2 ** bits)))
                self.assertEqual(stepped(kind, (3, 0), 1, -n), wrap(kind, pow(3, -n, 2 ** bits)))
                self.assertEqual(stepped(kind, (0, 9), 1, n), 9)
                self.assertEqual(stepped(kind, (2, 0), 1, n), wrap(kind, 2 ** n if n < bits else 0))

    def test_a_turn_leads_to_the_same_value_and_half_of_it_does_not(self):
        for kind, generator, x in self.cases(300):
            lead, length = ring_of(kind, generator, x)
            y = stepped(kind, generator, x, lead)
            self.assertEqual(stepped(kind, generator, y, length), y)
            self.assertEqual(length & (length - 1), 0)
            if length > 1:
                self.assertNotEqual(stepped(kind, generator, y, length // 2), y)
            if generator[0] % 2:
                self.assertEqual(lead, 0)
                continue
            self.assertEqual(length, 1)
            self.assertLessEqual(lead, kind.parts()[0])
            if lead:
                self.assertNotEqual(stepped(kind, generator, x, lead - 1), y)

    def test_lengths_by_formulas(self):
        for kind in WIDE_KINDS:
            bits = kind.parts()[0]
            size = 2 ** bits
            for k in range(2, bits - 1, 7):
                # A power of two above 1, or below it, as a multiplier of odd values, and as an addend.
                self.assertEqual(ring_of(kind, (2 ** k + 1, 0), 1), (0, 2 ** (bits - k)))
                self.assertEqual(ring_of(kind, (2 ** k - 1, 0), 1), (0, 2 ** (bits - k)))
                self.assertEqual(ring_of(kind, (1, 2 ** k), 9), (0, 2 ** (bits - k)))
                self.assertEqual(ring_of(kind, (2 ** k, 0), 1), (-(-bits // k), 1))
                self.assertEqual(ring_values(kind, (1, 2 ** k), 9), [(9 % 2 ** k, k)])
                self.assertEqual(ring_values(kind, (2 ** k + 1, 0), 1), [(1, k)])
                self.assertEqual(ring_values(kind, (2 ** k - 1, 0), 1), sorted([(1, k + 1), (2 ** k - 1, k + 1)]))
            self.assertEqual(ring_of(kind, (5, 3), 1), (0, size))
            self.assertEqual(ring_values(kind, (5, 3), 1), [(0, 0)])
            self.assertEqual(ring_lengths(kind, (5, 3)), [(size, 1)])
            self.assertEqual(ring_lengths(kind, (1, 0)), [(1, size)])
            self.assertEqual(ring_lengths(kind, (-1 % (bounds(kind)[1] + 1), 0))[-1][0], 2)
            self.assertEqual(ring_lengths(kind, (5, 0)), [(1, 4)] + [(2 ** i, 2) for i in range(1, bits - 1)])
            self.assertEqual(ring_lengths(kind, (6, 1)), [(1, 1)])

    def test_all_values_are_on_the_rings_of_an_odd_generator(self):
        for kind, generator, x in self.cases(300):
            found = ring_lengths(kind, generator)
            self.assertEqual(found, sorted(found))
            if generator[0] % 2:
                self.assertEqual(sum(length * number for length, number in found), 2 ** kind.parts()[0])
                self.assertIn(ring_of(kind, generator, x)[1], [length for length, _ in found])
            else:
                self.assertEqual(found, [(1, 1)])

    def test_ring_values_hold_those_of_the_ring_and_no_others(self):
        for kind, generator, x in self.cases(300):
            bits = kind.parts()[0]
            lead, length = ring_of(kind, generator, x)
            found = ring_values(kind, generator, x)
            self.assertEqual(sum(2 ** (bits - k) for _, k in found), length)
            self.assertEqual(found, sorted(found))
            self.assertFalse(len(found) == 2 and found[0][1] == found[1][1] and (
                found[1][0] - found[0][0] == 2 ** (found[0][1] - 1)))
            for n in (0, 1, 2, 3, 10 ** 20 + 1, length // 2, length - 1):
                y = stepped(kind, generator, x, lead + n)
                self.assertEqual(sum((y - first) % 2 ** k == 0 for first, k in found), 1)


class WrongArgumentsTest(unittest.TestCase):

    def test_stepped(self):
        wrong = {"kind": no_kinds(), "generator": not_generators(SMALL), "x": not_values(SMALL)}
        for n in (0, 5, HUGE, -1, -HUGE):
            right = {"kind": SMALL, "generator": (-3, 5), "x": -128, "n": n}
            check_bounds(self, stepped, right, {**wrong, "n": no_integers()})
        for a in (0, 4, -128, 126):
            right = {"kind": SMALL, "generator": (a, 5), "x": -128, "n": 5}
            check_bounds(self, stepped, right, {**wrong, "n": no_integers() + [-1, -2, -HUGE]})

    def test_rings(self):
        for kind in (SMALL, Kind(1, True), Kind(128, False)):
            low, high = bounds(kind)
            wrong = {"kind": no_kinds(), "generator": not_generators(kind), "x": not_values(kind)}
            for generator in ((high, low), (low, high)):
                for function in (ring_of, ring_values):
                    check_bounds(self, function, {"kind": kind, "generator": generator, "x": low}, wrong)
                right = {"kind": kind, "generator": generator}
                check_bounds(self, ring_lengths, right, {"kind": no_kinds(), "generator": not_generators(kind)})


if __name__ == "__main__":
    unittest.main()
