"""Numbers of steps: points 38 to 41, against steps done one by one, and against `stepped` for wide kinds."""

import unittest

from farwrap.generators import ring_of, stepped
from farwrap.kinds import Kind
from farwrap.logarithms import all_steps, first_met, low_steps, steps_between
from tests.samples import BYTE, HUGE, SMALL, WIDE_KINDS, all_kinds, bounds, shares, values, wrap
from tests.walks import all_generators, lead_and_length, numbers_of, path, some_generators
from tests.wrong import check_bounds, no_kinds, no_numbers, not_choices, not_generators, not_values


def small_cases():
    for kind in all_kinds(6) + [BYTE, SMALL]:
        bits = kind.parts()[0]
        for generator in all_generators(kind) if bits <= 3 else some_generators(kind, 40):
            for x in shares(values(kind), 8 if bits <= 3 else 3):
                yield kind, generator, x, path(kind, generator, x, 3 * 2 ** bits + 9)


class SmallKindsTest(unittest.TestCase):

    def test_steps(self):
        for kind, generator, x, found in small_cases():
            length = lead_and_length(found)[1]
            for y in shares(values(kind), 16):
                numbers = numbers_of(found, length, lambda z: z == y)
                place = (kind.parts(), generator, x, y)
                self.assertEqual(all_steps(kind, generator, x, y), numbers, place)
                self.assertEqual(steps_between(kind, generator, x, y), numbers and numbers[0], place)

    def test_low_steps(self):
        for kind, generator, x, found in small_cases():
            length = lead_and_length(found)[1]
            for bits in range(kind.parts()[0] + 1):
                for y in shares(values(kind), 5):
                    numbers = numbers_of(found, length, lambda z: (z - y) % 2 ** bits == 0)
                    place = (kind.parts(), generator, x, y, bits)
                    self.assertEqual(low_steps(kind, generator, x, y, bits), numbers, place)

    def test_first_met(self):
        for kind, generator, x, found in small_cases():
            low, high = bounds(kind)
            for some in ([low], [high, low], [low, low], shares(values(kind), 20), [1 % (high + 1), high // 2, high // 2]):
                first = next((n for n, z in enumerate(found) if z in some), None)
                met = None if first is None else (first, found[first])
                self.assertEqual(first_met(kind, generator, x, some), met, (kind.parts(), generator, x, some))


class EdgesTest(unittest.TestCase):

    def test_examples(self):
        self.assertEqual(steps_between(BYTE, (5, 3), 1, 43), 2)
        self.assertIsNone(steps_between(BYTE, (3, 0), 1, 5))
        self.assertEqual(all_steps(BYTE, (3, 0), 1, 9), (2, 64))
        self.assertEqual(all_steps(BYTE, (4, 3), 1, 31), (2, 0))
        self.assertEqual(all_steps(BYTE, (4, 3), 1, 255), (4, 1))
        self.assertEqual(low_steps(BYTE, (5, 3), 1, 3, 4), (10, 16))
        self.assertEqual(low_steps(BYTE, (5, 3), 1, 0, 0), (0, 1))
        self.assertEqual(first_met(BYTE, (5, 3), 1, [218, 43]), (2, 43))

    def test_arguments_by_name(self):
        named = {"x": 1, "generator": (5, 3), "kind": BYTE}
        self.assertEqual((steps_between(y=43, **named), all_steps(y=43, **named)), (2, (2, 256)))
        self.assertEqual((low_steps(bits=4, y=3, **named), first_met(some=[218, 43], **named)), ((10, 16), (2, 43)))

    def test_no_step_at_all(self):
        for kind in (BYTE, SMALL, *WIDE_KINDS):
            low, high = bounds(kind)
            for generator in ((5, 3), (3, 0), (-1 % (high + 1), 0), (4, 3), (0, 0), (1, 0)):
                for x in (low, 0, high):
                    self.assertEqual(steps_between(kind, generator, x, x), 0)
                    self.assertEqual(all_steps(kind, generator, x, x)[0], 0)
                    self.assertEqual(first_met(kind, generator, x, [1, x, 2]), (0, x))

    def test_low_steps_for_no_bits_and_for_all(self):
        for kind in (BYTE, SMALL, *WIDE_KINDS):
            low, high = bounds(kind)
            for generator in ((5, 3), (3, 0), (4, 3), (0, 0), (1, 0), (high, low), (low, high)):
                for x, y in ((low, high), (high, low), (3, 7), (0, 0)):
                    self.assertEqual(low_steps(kind, generator, x, y, 0), (0, 1))
                    both = (low_steps(kind, generator, x, y, kind.parts()[0]), all_steps(kind, generator, x, y))
                    self.assertEqual(both[0], both[1])

    def test_a_ring_of_one_value(self):
        self.assertEqual(all_steps(BYTE, (5, 0), 0, 0), (0, 1))
        self.assertIsNone(all_steps(BYTE, (5, 0), 0, 1))
        self.assertEqual(all_steps(BYTE, (1, 0), 7, 7), (0, 1))
        self.assertEqual(all_steps(BYTE, (0, 9), 9, 9), (0, 1))
        self.assertEqual(all_steps(BYTE, (0, 9), 7, 9), (1, 1))
        self.assertEqual(all_steps(BYTE, (0, 9), 7, 7), (0, 0))
        self.assertIsNone(all_steps(BYTE, (0, 9), 7, 8))

    def test_multipliers_below_zero(self):
        self.assertEqual(all_steps(SMALL, (-1, 0), 5, -5), (1, 2))
        self.assertEqual(all_steps(SMALL, (-1, 7), 5, 2), (1, 2))
        self.assertEqual(all_steps(SMALL, (-3, 0), 1, -27), (3, 64))
        self.assertEqual(all_steps(SMALL, (-2, 0), 1, 64), (6, 0))
        self.assertEqual(all_steps(SMALL, (-2, 0), 1, 0), (8, 1))

    def test_the_first_of_two_that_are_met(self):
        self.assertEqual(first_met(BYTE, (3, 0), 1, [5, 27, 9]), (2, 9))
        self.assertIsNone(first_met(BYTE, (3, 0), 1, [5, 7, 0]))
        self.assertEqual(first_met(BYTE, (1, 1), 200, [199, 198, 100]), (156, 100))
        self.assertEqual(first_met(BYTE, (1, 1), 200, [199] * 20), (255, 199))


class WideKindsTest(unittest.TestCase):

    NUMBERS = (0, 1, 2, 3, 10 ** 9, 2 ** 60 + 1, 2 ** 63 - 1, 10 ** 30 + 1, 2 ** 127, 2 ** 128 - 1)

    def cases(self, count):
        for kind in WIDE_KINDS:
            low, high = bounds(kind)
            starts = (0, 1, low, high, high // 3, low // 5 + 2 ** 40)
            for place, generator in enumerate(some_generators(kind, count)):
                yield kind, generator, starts[place % 6]

    def test_the_number_that_is_told_leads_there_and_is_the_least(self):
        for kind, generator, x in self.cases(150):
            lead, length = ring_of(kind, generator, x)
            for n in self.NUMBERS:
                y = stepped(kind, generator, x, n)
                least = n if n < lead else lead + (n - lead) % length
                again = 0 if n < lead else length
                place = (kind.parts(), generator, x, n)
                self.assertEqual(steps_between(kind, generator, x, y), least, place)
                self.assertEqual(all_steps(kind, generator, x, y), (least, again), place)

    def test_values_of_no_number(self):
        for kind, generator, x in self.cases(150):
            low, high = bounds(kind)
            for y in (low, high, x ^ 1, high // 7, 12345):
                n = steps_between(kind, generator, x, y)
                if n is not None:
                    self.assertEqual(stepped(kind, generator, x, n), y)
                elif generator[0] % 2:
                    # Where x does not come to y, y does not come to x.
                    self.assertIsNone(steps_between(kind, generator, y, x))

    def test_powers_by_formulas(self):
        for kind in WIDE_KINDS:
            bits = kind.parts()[0]
            for n in (0, 1, 10 ** 15, 2 ** 61 + 3):
                for a in (3, 5, -3 % 2 ** bits, 2 ** 40 + 1, 2 ** 40 - 1):
                    length = ring_of(kind, (wrap(kind, a), 0), 1)[1]
                    y = wrap(kind, pow(a, n, 2 ** bits))
                    self.assertEqual(all_steps(kind, (wrap(kind, a), 0), 1, y), (n % length, length))
            # The powers of 3 are the values that are 1 or 3 modulo 8.
            self.assertIsNone(steps_between(kind, (3, 0), 1, 5))
            self.assertIsNone(steps_between(kind, (3, 0), 1, 7))
            self.assertIsNotNone(steps_between(kind, (3, 0), 1, 2 ** 60 + 3))
            self.assertIsNone(steps_between(kind, (1, 4), 1, 3))
            self.assertEqual(all_steps(kind, (1, 4), 1, 4 * 10 ** 18 + 1), (10 ** 18, 2 ** (bits - 2)))
            self.assertEqual(all_steps(kind, (1, 1), 7, 5), (2 ** bits - 2, 2 ** bits))

    def test_low_steps_lead_to_equal_bits_and_are_the_least(self):
        for kind, generator, x in self.cases(60):
            low, high = bounds(kind)
            for bits in (1, 2, 3, 10, 33, 63, kind.parts()[0]):
                size = 2 ** bits
                narrow = Kind(bits, False)
                inner = (generator[0] % size, generator[1] % size)
                for y in (low, high // 3, stepped(kind, generator, x, 10 ** 25)):
                    found = low_steps(kind, generator, x, y, bits)
                    self.assertEqual(found, all_steps(narrow, inner, x % size, y % size))
                    if found is None:
                        continue
                    first, length = found
                    for n in (first, first + length, first + 5 * length):
                        self.assertEqual((stepped(kind, generator, x, n) - y) % size, 0)
                    if length > 1 and first + length // 2 > 0:
                        self.assertNotEqual((stepped(kind, generator, x, first + length // 2) - y) % size, 0)

    def test_first_met_is_the_least_of_all(self):
        for kind, generator, x in self.cases(60):
            numbers = (10 ** 20, 7, 2 ** 63, 5, 2 ** 127 + 1, 10 ** 38)
            some = [stepped(kind, generator, x, n) for n in numbers] + [bounds(kind)[1] // 5]
            steps = {y: steps_between(kind, generator, x, y) for y in some}
            least = min((n, y) for y, n in steps.items() if n is not None)
            self.assertEqual(first_met(kind, generator, x, some), least)
            self.assertEqual(stepped(kind, generator, x, least[0]), least[1])


class CallsTest(unittest.TestCase):

    def test_the_list_is_not_changed(self):
        some = [218, 43, 218]
        first_met(BYTE, (5, 3), 1, some)
        self.assertEqual(some, [218, 43, 218])

    def test_results_are_tuples(self):
        for found in (all_steps(BYTE, (3, 0), 1, 9), low_steps(BYTE, (3, 0), 1, 9, 5), first_met(BYTE, (3, 0), 1, [9])):
            self.assertIs(type(found), tuple)
            self.assertEqual(len(found), 2)


class WrongArgumentsTest(unittest.TestCase):

    def wrong(self, kind):
        return {"kind": no_kinds(), "generator": not_generators(kind), "x": not_values(kind)}

    def test_functions_of_two_values(self):
        for kind in (SMALL, Kind(1, False), Kind(128, True)):
            low, high = bounds(kind)
            right = {"kind": kind, "generator": (high, low), "x": low, "y": high}
            for function in (steps_between, all_steps):
                check_bounds(self, function, right, {**self.wrong(kind), "y": not_values(kind)})

    def test_low_steps(self):
        for bits in (0, 5, 8):
            for a in (-3, 4):
                right = {"kind": SMALL, "generator": (a, 5), "x": -128, "y": 127, "bits": bits}
                wrong = {**self.wrong(SMALL), "y": not_values(SMALL), "bits": no_numbers(9) + [129, HUGE]}
                check_bounds(self, low_steps, right, wrong)

    def test_first_met(self):
        for some in ([-128], [127, 0, 127], [5] * 20):
            right = {"kind": SMALL, "generator": (-3, 5), "x": -128, "some": some}
            check_bounds(self, first_met, right, {**self.wrong(SMALL), "some": not_choices(SMALL)})


if __name__ == "__main__":
    unittest.main()
