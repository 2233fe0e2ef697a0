"""Steps modulo powers of two, which several modules share, against steps done one by one."""

import unittest

from farwrap.kinds import Kind
from farwrap.steps import after, after_many, check_generator, is_generator, moved, repeated, ring_length, steps_to_ring
from tests.wrong import check_bound, not_generators

STEPS = [(a, c) for a in (-9, -3, -1, 0, 1, 2, 3, 4, 5, 8, 15, 16, 17, 10 ** 30 + 1) for c in (-5, 0, 1, 6, 10 ** 40)]


class StepsTest(unittest.TestCase):

    def path(self, step, x, bits, count):
        found = []
        for _ in range(count):
            found.append(x % 2 ** bits)
            x = (step[0] * x + step[1]) % 2 ** bits
        return found

    def test_one_step_and_two(self):
        for size in (1, 2, 8, 2 ** 128):
            for step in STEPS:
                for x in (-3, 0, 7, 10 ** 50):
                    self.assertEqual(moved(step, x, size), (step[0] * x + step[1]) % size)
                    for other in STEPS[::7]:
                        both = moved(other, moved(step, x, size), size)
                        self.assertEqual(moved(after(step, other, size), x, size), both)

    def test_many_steps(self):
        for bits in (0, 1, 2, 3, 4, 5):
            for step in STEPS:
                for x in (-3, 0, 1, 6, 9):
                    found = self.path(step, x, bits, 3 * 2 ** bits + 9)
                    for n, y in enumerate(found):
                        self.assertEqual(moved(repeated(step, n, 2 ** bits), x, 2 ** bits), y)
                        self.assertEqual(after_many(step, x, n, bits), y)
                        if step[0] % 2:
                            self.assertEqual(after_many(step, y, -n, bits), x % 2 ** bits)
                    self.check_ring(step, x, bits, found)

    def check_ring(self, step, x, bits, found):
        lead = min(n for n in range(2 ** bits + 1) if found[n] in found[n + 1:])
        self.assertEqual(found[lead + ring_length(step, found[lead], bits)], found[lead])
        self.assertEqual(ring_length(step, found[lead], bits), found.index(found[lead], lead + 1) - lead)
        if bits > 0:
            self.assertEqual(steps_to_ring(step, x, bits), lead)

    def test_generators(self):
        for kind in (Kind(8, True), Kind(1, False), Kind(128, True)):
            for value in not_generators(kind):
                self.assertIs(is_generator(kind, value), False)
                check_bound(self, check_generator, {"kind": kind, "value": value, "argument": "one"}, "one")
        self.assertIs(is_generator(Kind(8, True), (-128, 127)), True)


if __name__ == "__main__":
    unittest.main()
