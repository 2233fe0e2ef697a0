"""Hits of a line in a range of remainders, against counting one by one, and by sums for wide sizes."""

import unittest

from farwrap.hits import first_hit, has_hit, hit_at
from farwrap.sums import total_between
from tests.samples import hard_factors, shares

FAR = 10 ** 60


def hits(line, size, low, high, count):
    """The x from 0 on that are hits, among the first `count`."""
    a, b = line
    wanted = {y % size for y in range(low, high + 1)}
    return [x for x in range(count) if (a * x + b) % size in wanted]


class SmallSizesTest(unittest.TestCase):

    def test_all_lines_of_small_sizes(self):
        for size in range(1, 13):
            for a in range(size):
                for b in range(size):
                    for count in range(size + 1):
                        self.check(((a, b), size, b % 5 - 2, b % 5 - 3 + count), 4 * size)

    def test_factors_beyond_the_size(self):
        for size in (1, 2, 8, 24, 100):
            for a in (-FAR, -size - 1, -3, size, size + 3, 7 * size + 5, FAR + 1):
                for b in (-FAR, -1, 0, 5, FAR):
                    for low, high in ((0, size - 1), (-size, -1), (3, 3), (-1, min(1, size - 2)), (size, 2 * size - 1)):
                        self.check(((a, b), size, low, high), 3 * size)

    def check(self, arguments, count):
        found = hits(*arguments, count)
        self.assertIs(has_hit(*arguments), bool(found), arguments)
        self.assertEqual(first_hit(*arguments), found[0] if found else None, arguments)
        for j in shares(range(len(found)), 7):
            self.assertEqual(hit_at(*arguments[:2], 0, *arguments[2:], j), found[j], (arguments, j))


class WideSizesTest(unittest.TestCase):

    def test_number_j_is_one_and_has_j_ahead(self):
        for size in (2 ** 64, 2 ** 128, 10 ** 30 + 57):
            for place, a in enumerate(hard_factors(size)):
                line = (a, (size // 7 * place) % size)
                for low, count in ((0, 1), (size - 9, 9), (size // 3, 2 ** 40), (5, size // 2), (-7, size - 1)):
                    high = low + count - 1
                    if has_hit(line, size, low, high):
                        for j in (0, 1, 10 ** 9, size // 5, FAR):
                            self.check_number(line, size, low, high, j)
                        self.assertEqual(first_hit(line, size, low, high), hit_at(line, size, 0, low, high, 0))
                    else:
                        self.assertIsNone(first_hit(line, size, low, high))
                        self.assertEqual(total_between(line, size, 0, 3 * size, low, high), 0)

    def check_number(self, line, size, low, high, j):
        for first in (0, 1, -(10 ** 59), size * 3 + 7):
            x = hit_at(line, size, first, low, high, j)
            self.assertLessEqual((line[0] * x + line[1] - low) % size, high - low)
            self.assertEqual(total_between(line, size, first, x - 1, low, high), j)


if __name__ == "__main__":
    unittest.main()
