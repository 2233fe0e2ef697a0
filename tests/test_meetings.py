"""Two generators: points 42 to 45, against steps done one by one, and against `stepped` for wide kinds."""

import unittest

from farwrap.generators import stepped
from farwrap.kinds import Kind
from farwrap.meetings import first_meeting, meeting_at, meeting_total, meetings, nearness
from tests.polynomials import families_of
from tests.samples import BYTE, HUGE, SMALL, WIDE_KINDS, all_kinds, bounds, shares, twos_in, values, wrap
from tests.walks import all_generators, path, some_generators
from tests.wrong import check_bound, check_bounds, no_counts, no_kinds, not_odd_generators, not_values


def odd(generators):
    return [generator for generator in generators if generator[0] % 2]


def small_cases():
    """Kinds with two generators and two values; all of them for one and two bits."""
    for kind in all_kinds(2):
        for one in odd(all_generators(kind)):
            for other in odd(all_generators(kind)):
                for x in values(kind):
                    for y in values(kind):
                        yield kind, one, x, other, y
    for kind in all_kinds(6)[4:] + [BYTE, SMALL]:
        found = odd(some_generators(kind, 500))
        for place, one in enumerate(shares(found, 30)):
            for at, other in enumerate(shares(found, 9) + [one, (one[0], found[place % len(found)][1])]):
                x = wrap(kind, place * 7 + at)
                for y in (x, wrap(kind, x + 2 ** (at % 6)), wrap(kind, place * at + 1)):
                    yield kind, one, x, other, y


class SmallKindsTest(unittest.TestCase):

    def test_one_by_one(self):
        for case in small_cases():
            kind, one, x, other, y = case
            bits = kind.parts()[0]
            size = 2 ** bits
            gaps = [a - b for a, b in zip(path(kind, one, x, size), path(kind, other, y, size))]
            met = [n for n, gap in enumerate(gaps) if gap == 0]
            place = (kind.parts(), case[1:])
            self.assertEqual(meetings(*case), families_of(kind, met), place)
            self.assertEqual(meeting_total(*case), len(met), place)
            near = [twos_in(gap, bits) for gap in gaps]
            self.assertEqual(nearness(*case), (max(near), near.index(max(near))), place)
            self.check_numbers(case, met, size)

    def check_numbers(self, case, met, size):
        later = [n + turn * size for turn in range(6) for n in met]
        for first in (0, 1, size // 2, size - 1, size, size + 3):
            found = next((n for n in later if n >= first), None)
            self.assertEqual(first_meeting(*case, first), found)
        for j in shares(range(len(later)), 4):
            self.assertEqual(meeting_at(*case, j), later[j])
        if met:
            j = 10 ** 40 * len(met) + len(met) - 1
            self.assertEqual(meeting_at(*case, j), 10 ** 40 * size + met[-1])
            self.assertEqual(first_meeting(*case, 10 ** 40 * size), 10 ** 40 * size + met[0])


class EdgesTest(unittest.TestCase):

    LINES = {"kind": BYTE, "one": (1, 1), "x": 0, "other": (1, 3), "y": 10}

    def test_examples(self):
        case = (BYTE, (1, 1), 0, (1, 3), 10)
        self.assertEqual(meetings(*case), [(123, 7)])
        self.assertEqual(meetings(BYTE, (5, 1), 3, (5, 1), 3), [(0, 0)])
        self.assertEqual(meetings(BYTE, (5, 1), 3, (5, 1), 4), [])
        self.assertEqual(first_meeting(*case, 124), 251)
        self.assertEqual(meeting_at(*case, 4), 635)
        self.assertEqual(nearness(BYTE, (1, 2), 0, (1, 4), 1), (0, 0))

    def test_arguments_by_name(self):
        named = self.LINES
        self.assertEqual((meetings(**named), meeting_total(**named)), ([(123, 7)], 2))
        self.assertEqual((first_meeting(first=124, **named), meeting_at(j=4, **named)), (251, 635))
        self.assertEqual(nearness(**named), (8, 123))

    def test_generators_that_never_meet(self):
        for kind in (BYTE, SMALL, *WIDE_KINDS):
            never = {"kind": kind, "one": (5, 1), "x": 3, "other": (5, 1), "y": 4}
            self.assertEqual((meetings(**never), meeting_total(**never)), ([], 0))
            self.assertIsNone(first_meeting(**never, first=0))
            self.assertIsNone(first_meeting(**never, first=HUGE))
            self.assertEqual(nearness(**never), (0, 0))
            for j in (0, 1, HUGE, -1, None, True):
                check_bound(self, meeting_at, {**never, "j": j}, "j")

    def test_generators_that_always_meet(self):
        for kind in (BYTE, SMALL, *WIDE_KINDS):
            always = {"kind": kind, "one": (5, 1), "x": 3, "other": (5, 1), "y": 3}
            self.assertEqual((meetings(**always), meeting_total(**always)), ([(0, 0)], 2 ** kind.parts()[0]))
            self.assertEqual((first_meeting(**always, first=HUGE), meeting_at(**always, j=HUGE)), (HUGE, HUGE))
            self.assertEqual(nearness(**always), (kind.parts()[0], 0))

    def test_beyond_all_values(self):
        self.assertEqual([meeting_at(**self.LINES, j=j) for j in range(5)], [123, 251, 379, 507, 635])
        self.assertEqual(first_meeting(**self.LINES, first=252), 379)
        self.assertEqual(first_meeting(**self.LINES, first=379), 379)
        self.assertEqual(first_meeting(**self.LINES, first=128 * 10 ** 300), 128 * 10 ** 300 + 123)

    def test_families_are_of_numbers_of_steps_for_signed_kinds_too(self):
        self.assertEqual(meetings(SMALL, (1, 1), 0, (1, 3), 10), [(123, 7)])
        self.assertEqual(meetings(SMALL, (-1, 0), 5, (1, 0), -5), [(1, 1)])
        self.assertEqual(meetings(Kind(1, True), (-1, -1), 0, (-1, 0), -1), [(1, 1)])

    def test_lists_are_new_each_time(self):
        found = meetings(**self.LINES)
        self.assertIs(type(found), list)
        found.append(1)
        self.assertEqual(meetings(**self.LINES), [(123, 7)])
        self.assertIs(type(nearness(**self.LINES)), tuple)


class WideKindsTest(unittest.TestCase):

    NUMBERS = (0, 1, 77, 10 ** 9, 2 ** 40 - 1, 2 ** 63 - 25, 2 ** 127 + 12345)

    def cases(self):
        """Pairs of generators that meet after a number of steps, as y is found by steps back."""
        for kind in WIDE_KINDS:
            bits = kind.parts()[0]
            found = odd(some_generators(kind, 900))
            for place, one in enumerate(shares(found, 24)):
                for other in (found[place * 31 % len(found)], one, (one[0], found[place * 17 % len(found)][1]),
                              (wrap(kind, one[0] + 2 ** (place % bits or 1)), one[1])):
                    n = self.NUMBERS[place % len(self.NUMBERS)] % 2 ** bits
                    x = wrap(kind, place ** 20)
                    yield (kind, one, x, other, stepped(kind, other, stepped(kind, one, x, n), -n)), n

    def gap(self, case, n):
        kind, one, x, other, y = case
        return stepped(kind, one, x, n) - stepped(kind, other, y, n)

    def test_the_numbers_of_a_family_lead_to_the_same_value(self):
        for case, n in self.cases():
            bits = case[0].parts()[0]
            families = meetings(*case)
            self.assertEqual(families, sorted(families))
            self.assertEqual(sum((n - first) % 2 ** k == 0 for first, k in families), 1)
            self.assertEqual(meeting_total(*case), sum(2 ** (bits - k) for _, k in families))
            for first, k in families:
                for i in (0, 1, 2, 3, 5, 8, 10 ** 30 + 1):
                    self.assertEqual(self.gap(case, first + i * 2 ** k), 0)

    def test_other_numbers_do_not(self):
        for case, n in self.cases():
            families = meetings(*case)
            kin = {first + 2 ** (k - 1) for first, k in families if k} | {first + 1 for first, _ in families}
            kin |= {n + 2 ** i for i in range(0, case[0].parts()[0], 9)} | {0, 1, 2, 3, 10 ** 15}
            for m in kin:
                is_told = any((m - first) % 2 ** k == 0 for first, k in families)
                self.assertIs(self.gap(case, m) == 0, is_told)

    def test_number_j_has_j_ahead(self):
        for case, n in self.cases():
            families = meetings(*case)
            size = 2 ** case[0].parts()[0]
            total = meeting_total(*case)

            def ahead(end):
                return sum((end - 1 - first) // 2 ** k + 1 for first, k in families)

            for j in (0, 1, total - 1, total, total // 3, 5 * total + total // 2, 10 ** 50):
                m = meeting_at(*case, j)
                self.assertEqual(self.gap(case, m % size), 0)
                self.assertEqual(ahead(m), j)
                self.assertEqual(first_meeting(*case, m), m)
                self.assertEqual(first_meeting(*case, m + 1), meeting_at(*case, j + 1))
            self.assertEqual(first_meeting(*case, 0), meeting_at(*case, 0))

    def test_nearness_of_those_that_meet(self):
        for case, n in self.cases():
            self.assertEqual(nearness(*case), (case[0].parts()[0], first_meeting(*case, 0)))

    def test_nearness_of_those_that_may_not_meet(self):
        for (kind, one, x, other, y), n in self.cases():
            for k in (0, 1, 2, 5, 30, 62):
                case = (kind, one, x, other, wrap(kind, y + 2 ** k))
                near, m = nearness(*case)
                bits = kind.parts()[0]
                self.assertEqual(twos_in(self.gap(case, m), bits), near)
                self.assertGreaterEqual(near, min(k, bits))
                # A kind of as many bits as are equal tells all numbers of steps that are as near.
                for more in (near, near + 1):
                    if 1 <= more <= bits:
                        narrow = Kind(more, False)
                        inner = [(a % 2 ** more, c % 2 ** more) for a, c in (one, other)]
                        arguments = (narrow, inner[0], x % 2 ** more, inner[1], case[4] % 2 ** more, 0)
                        self.assertEqual(first_meeting(*arguments), m if more == near else None)

    def test_lines_by_formulas(self):
        for kind in WIDE_KINDS:
            size = 2 ** kind.parts()[0]
            # 10 + 3 * n is n for n = -5 modulo half of all values.
            self.assertEqual(meetings(kind, (1, 1), 0, (1, 3), 10), [(size // 2 - 5, kind.parts()[0] - 1)])
            self.assertEqual(meetings(kind, (1, 0), 0, (1, 1), 0), [(0, kind.parts()[0])])
            self.assertEqual(meetings(kind, (1, 2), 0, (1, 4), 1), [])
            self.assertEqual(meetings(kind, (1, 0), 1, (3, 0), 1), [(0, kind.parts()[0] - 2)])
            self.assertEqual(nearness(kind, (1, 2), 0, (1, 4), 1), (0, 0))
            self.assertEqual(nearness(kind, (1, 0), 5, (1, 16), 1), (2, 0))


class WrongArgumentsTest(unittest.TestCase):

    def wrong(self, kind):
        return {
            "kind": no_kinds(), "one": not_odd_generators(kind), "x": not_values(kind),
            "other": not_odd_generators(kind), "y": not_values(kind),
        }

    def test_all_functions(self):
        for kind in (SMALL, Kind(1, True), Kind(128, False)):
            low, high = bounds(kind)
            unit = wrap(kind, 1)
            right = {"kind": kind, "one": (unit, low), "x": high, "other": (wrap(kind, -1), high), "y": high}
            for function in (meetings, meeting_total, nearness):
                check_bounds(self, function, right, self.wrong(kind))

    def test_first_meeting(self):
        for y in (3, 4):
            right = {"kind": SMALL, "one": (5, 1), "x": 3, "other": (5, 1), "y": y, "first": HUGE}
            check_bounds(self, first_meeting, right, {**self.wrong(SMALL), "first": no_counts()})

    def test_meeting_at(self):
        right = {"kind": SMALL, "one": (1, 1), "x": 0, "other": (1, 3), "y": 10, "j": HUGE}
        check_bounds(self, meeting_at, right, {**self.wrong(SMALL), "j": no_counts()})


if __name__ == "__main__":
    unittest.main()
