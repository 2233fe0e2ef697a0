"""Sums, searches, families and words, which several modules share."""

import math
import unittest
from fractions import Fraction

from farwrap.families import common, contains, family_size, joined, size_inside, total_inside, total_size
from farwrap.searches import first_wanted, last_wanted, least_passing, wanted_at, wanted_of
from farwrap.sums import least_remainder, quotient_total, total_between
from farwrap.words import RELATIONS, check_word, is_word, opposite, stands
from tests.samples import hard_factors, shares
from tests.wrong import check_bound, no_numbers, no_relations

FAR = 10 ** 60


class SumsTest(unittest.TestCase):

    def test_quotients(self):
        for size in (1, 2, 7, 8, 64):
            for a in (-70, -9, -1, 0, 1, 3, 5, 8, 63, 64, 200, FAR + 1, -FAR):
                for b in (-100, -1, 0, 1, 63, FAR):
                    for first, last in ((0, 0), (0, 20), (-13, 6), (5, 4), (5, -FAR), (FAR, FAR + 7), (-FAR - 7, -FAR)):
                        total = sum(math.floor(Fraction(a * x + b, size)) for x in range(first, last + 1))
                        self.assertEqual(quotient_total((a, b), size, first, last), total)

    def test_sums_of_long_ranges(self):
        for size in (1, 2 ** 64, 2 ** 128):
            for a, b in ((0, 7), (1, 0), (3 * size, -5 * size)):
                for n in (1, size, 9 * size):
                    # Whole multiples of size, or as many of each remainder.
                    total = quotient_total((a, b), size, 0, n - 1)
                    if a == 1:
                        self.assertEqual(total, size * (n // size) * (n // size - 1) // 2)
                    else:
                        self.assertEqual(total, a // size * n * (n - 1) // 2 + b // size * n)

    def test_totals_between(self):
        for size in (1, 2, 8):
            for low, high in ((0, size - 1), (-size, -1), (-1, size - 2), (3, 3), (2, 1), (9, 0), (0, 0)):
                for a, b in ((3, 1), (-5, 2), (0, 3), (8, 8), (FAR, -FAR)):
                    for first, last in ((0, 15), (-9, 3), (2, 1)):
                        wanted = {n % size for n in range(low, high + 1)}
                        total = sum((a * x + b) % size in wanted for x in range(first, last + 1))
                        self.assertEqual(total_between((a, b), size, first, last, low, high), total)


class RemaindersTest(unittest.TestCase):

    def test_one_by_one(self):
        for size in (1, 2, 3, 7, 8, 12, 64):
            for a in (*range(-size, size + 1), FAR + 1, -FAR):
                for b in (-100, 0, 5, size - 1, FAR):
                    for first, last in ((0, 0), (0, 3), (0, 20), (-13, 6), (FAR, FAR + 7), (-FAR - 70, -FAR)):
                        least = min((a * x + b) % size for x in range(first, last + 1))
                        self.assertEqual(least_remainder((a, b), size, first, last), least)

    def test_of_wide_sizes(self):
        for size in (2 ** 64, 2 ** 128):
            for a in hard_factors(size):
                for b in (0, 12345, size // 3):
                    for first, last in ((0, size - 1), (7, 10 ** 12), (-FAR, FAR), (10 ** 9, 10 ** 9 + 2 ** 70)):
                        least = least_remainder((a, b), size, first, last)
                        self.assertEqual(total_between((a, b), size, first, last, 0, least - 1), 0)
                        self.assertGreater(total_between((a, b), size, first, last, least, least), 0)


class SearchesTest(unittest.TestCase):

    def test_all_sets_of_a_range(self):
        for first in (-3, 0, 10 ** 60):
            for many in range(9):
                for number in range(2 ** many):
                    wanted = [first + i for i in range(many) if number >> i & 1]
                    self.check_wanted(wanted, first, first + many - 1)

    def check_wanted(self, wanted, first, last):
        def total(start, end):
            return sum(start <= x <= end for x in wanted)

        self.assertEqual(first_wanted(total, first, last), wanted[0] if wanted else None)
        self.assertEqual(last_wanted(total, first, last), wanted[-1] if wanted else None)
        self.assertEqual([wanted_at(total, first, last, j) for j in range(len(wanted))], wanted)
        for j in range(len(wanted)):
            self.assertEqual(wanted_of(total, first, last, len(wanted), j), wanted[j])
        named = {"total": total, "first": first, "last": last}
        for j in (-1, len(wanted)):
            check_bound(self, wanted_at, {**named, "j": j}, "j")

    def test_numbers_are_checked(self):
        for j in no_numbers(3):
            check_bound(self, wanted_at, {"total": lambda start, end: end - start + 1, "first": 1, "last": 3, "j": j}, "j")

    def test_few_questions(self):
        for wanted in (0, 1, 10 ** 60 // 3, 10 ** 60):
            asked = []
            self.assertEqual(least_passing(lambda n: asked.append(n) or n >= wanted, 0, 10 ** 60), wanted)
            self.assertLessEqual(len(asked), 200)

    def test_very_few_questions_for_those_that_are_spread_evenly(self):
        for many, gap in ((7, 10 ** 59), (10 ** 30 + 57, 10 ** 29), (10 ** 50 + 1, 10 ** 9), (10 ** 59 * 3, 3), (FAR - 10 ** 20, 1)):
            for j in (0, 1, many // 3, many // 2, many * 4 // 5, many - 2, many - 1):
                asked = []

                def total(start, end):
                    asked.append(start)
                    return (end + 1) * many // FAR - start * many // FAR

                x = wanted_at(total, 0, FAR - 1, j)
                self.assertEqual((x * many // FAR, (x + 1) * many // FAR), (j, j + 1))
                # Between two of them each question leaves half of the gap.
                self.assertLessEqual(len(asked), 20 + gap.bit_length())

    def spreads(self):
        """Functions that tell how many are wanted below an integer, spread in all sorts of ways."""
        found = [
            lambda x: math.isqrt(x), lambda x: math.isqrt(FAR) - math.isqrt(FAR - x), lambda x: x - math.isqrt(x),
            lambda x: x * x // (2 * FAR), lambda x: x ** 9 // (9 * FAR ** 8), lambda x: x.bit_length(),
        ]
        for count in (1, 2, 5, 77, 10 ** 20, 10 ** 57):
            for start in (0, 10 ** 12, 10 ** 30, FAR // 3, FAR - count - 10 ** 12, FAR - count):
                found.append(lambda x, count=count, start=start: max(0, min(count, x - start)))
            found.append(lambda x, count=count: x * count // FAR)
        # Blocks of wanted ones, of a few sizes within one another.
        for block in (10 ** 3, 10 ** 25, 10 ** 50):
            for many in (3, block // 10, block - 2):
                found.append(lambda x, block=block, many=many: x // block * many + min(x % block, many))
                found.append(lambda x, block=block, many=many: x // block * many + max(0, x % block - block + many))
        found.append(lambda x: x // 10 ** 40 * 10 ** 15 + x % 10 ** 40 // 10 ** 30 * 10 ** 5 + min(10 ** 5, x % 10 ** 30))
        return found

    def test_few_questions_however_the_wanted_ones_are_spread(self):
        for below in self.spreads():
            asked = []

            def total(start, end):
                asked.append(start)
                return below(end + 1) - below(start)

            many = total(0, FAR - 1)
            for j in sorted({0, many // 3, many - 1}):
                asked.clear()
                x = wanted_at(total, 0, FAR - 1, j)
                self.assertEqual((below(x), below(x + 1)), (j, j + 1))
                self.assertLessEqual(len(asked), 300)


def residues(families, bits):
    return {x for x in range(2 ** bits) if any((x - first) % 2 ** k == 0 for first, k in families)}


def all_families(bits):
    return [(first, k) for k in range(bits + 1) for first in range(2 ** k)]


class FamiliesTest(unittest.TestCase):

    def test_contains(self):
        for outer in all_families(4):
            for inner in all_families(4):
                self.assertIs(contains(outer, inner), residues([inner], 4) <= residues([outer], 4))

    def test_joined(self):
        for bits in range(5):
            for number in shares(range(2 ** 2 ** bits), 999):
                wanted = {x for x in range(2 ** bits) if number >> x & 1}
                found = joined([(x, bits) for x in sorted(wanted)], bits)
                self.assertEqual(residues(found, bits), wanted)
                self.assertEqual(sum(2 ** (bits - k) for _, k in found), len(wanted))
                self.assertEqual(found, sorted(found))
                for first, k in found:
                    self.assertFalse(k and (first ^ 2 ** (k - 1), k) in found)
                self.assertEqual(joined(found, bits), found)

    def test_common(self):
        for one in shares(range(2 ** 16), 60):
            for other in shares(range(2 ** 16), 37):
                families = joined([(x, 4) for x in range(16) if one >> x & 1], 4)
                others = joined([(x, 4) for x in range(16) if other >> x & 1], 4)
                shared = [(x, 4) for x in range(16) if one & other & 2 ** x]
                self.assertEqual(common(families, others), joined(shared, 4))

    def test_sizes(self):
        for family in all_families(4):
            self.assertEqual(family_size(family, 4), len(residues([family], 4)))
            for number in shares(range(2 ** 16), 40):
                families = joined([(x, 4) for x in range(16) if number >> x & 1], 4)
                self.assertEqual(total_size(families, 4), number.bit_count())
                self.assertEqual(size_inside(families, family, 4), len(residues([family], 4) & residues(families, 4)))

    def test_totals_inside(self):
        for families in ([], [(0, 0)], [(1, 1)], [(1, 2), (3, 3)], [(0, 128)], [(5, 4), (2, 3), (7, 3)]):
            for first in (-40, -1, 0, 1, 5, 2 ** 128 - 3):
                for last in range(first - 1, first + 40):
                    total = sum((x - start) % 2 ** k == 0 for start, k in families for x in range(first, last + 1))
                    self.assertEqual(total_inside(families, first, last), total)


class WordsTest(unittest.TestCase):

    def test_relations(self):
        order = {"<": [-1], "<=": [-1, 0], "==": [0], "!=": [-1, 1], ">=": [0, 1], ">": [1]}
        self.assertEqual(sorted(RELATIONS), sorted(order))
        for relation, signs in order.items():
            for y in (-FAR, -1, 0, 1, FAR):
                for sign in (-1, 0, 1):
                    self.assertIs(stands(y + sign, relation, y), sign in signs)
                    self.assertIs(stands(y + sign, opposite(relation), y), sign not in signs)
            check_word(relation, RELATIONS, "relation")

    def test_other_words(self):
        for word in no_relations():
            self.assertIs(is_word(word, RELATIONS), False)
            check_bound(self, check_word, {"word": word, "words": RELATIONS, "argument": "relation"}, "relation")


if __name__ == "__main__":
    unittest.main()
