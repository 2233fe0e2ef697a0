"""The examples of the document: the sessions, and those in the text of points 5 to 57."""

import unittest

from farwrap.alike import (
    are_alike, argument_of, first_unlike, normal_form, of_form, permutes, unlike_at, unlike_total,
)
from farwrap.casts import (
    apart_at, apart_total, do_same, origin_at, origin_total, results, shortest, shortest_for, survivor_total, survivors,
)
from farwrap.comparisons import (
    compares, first_holding, first_surprise, holding_at, holds, last_holding, overflow_total, pair_overflows,
    pairs_within, safe_values, surprises,
)
from farwrap.desks import Desk, replay
from farwrap.errors import InvalidBound, InvalidCall, InvalidKind
from farwrap.generators import ring_lengths, ring_of, ring_values, stepped
from farwrap.kinds import Kind, cast, greatest, inverse, least, operate, overflows, twos, wrapped
from farwrap.lines import (
    descent_at, descents, first_within, greatest_result, last_within, least_result, result, total_within, within_at,
)
from farwrap.logarithms import all_steps, first_met, low_steps, steps_between
from farwrap.loops import end_value, endless_starts, first_round, round_value, rounds, rounds_within, wraps
from farwrap.meetings import first_meeting, meeting_at, meetings, nearness
from farwrap.ranges import common_roots, root_above, root_at, root_below, root_counts, roots_within
from farwrap.roots import least_twos, lift, most_twos, root_total, roots, value_at


class SessionsTest(unittest.TestCase):

    def setUp(self):
        self.byte = Kind(8, False)
        self.small = Kind(8, True)
        self.word = Kind(16, False)

    def test_e01(self):
        with self.assertRaises(InvalidKind) as caught:
            Kind(129, False)
        self.assertEqual(caught.exception.part, "bits")

    def test_e02(self):
        byte, small = self.byte, self.small
        self.assertEqual(
            [least(small), greatest(byte), wrapped(small, 200), cast([small, Kind(16, False)], 200)],
            [-128, 255, -56, 65480],
        )

    def test_e03(self):
        byte, small = self.byte, self.small
        results = [
            operate(small, "divide", -128, -1), operate(small, "remainder", -7, 2),
            operate(small, "right", -7, 1), operate(byte, "multiply", 16, 17),
        ]
        self.assertEqual(results, [-128, -1, -4, 16])

    def test_e04(self):
        with self.assertRaises(InvalidBound) as caught:
            operate(self.byte, "divide", 5, 0)
        self.assertEqual(caught.exception.argument, "y")

    def test_e05(self):
        byte, small = self.byte, self.small
        results = [
            overflows(small, "divide", -128, -1), overflows(byte, "add", 200, 55),
            inverse(byte, 3), inverse(byte, 6), twos(small, -96), twos(byte, 0),
        ]
        self.assertEqual(results, [True, False, 171, None, 5, 8])

    def check_error(self, argument, function, *arguments):
        with self.assertRaises(InvalidBound) as caught:
            function(*arguments)
        self.assertEqual(caught.exception.argument, argument)

    def test_e06(self):
        byte = self.byte
        self.assertEqual(
            [roots(byte, [-1, 0, 1]), roots(byte, [0, 0, 1]), roots(byte, [256]), root_total(byte, [-1, 0, 1])],
            [[(1, 7), (127, 7)], [(0, 4)], [(0, 0)], 4],
        )

    def test_e07(self):
        self.assertEqual(roots(Kind(128, True), [-2 ** 100, 0, 1]), [(2 ** 50, 77), (2 ** 77 - 2 ** 50, 77)])

    def test_e08(self):
        byte, small = self.byte, self.small
        found = [
            lift(byte, [-1, 0, 1], 1, 1), least_twos(byte, [0, 1, 1]),
            most_twos(byte, [3, 0, 1]), value_at(small, [3, 0, 1], 11),
        ]
        self.assertEqual(found, [(2, 2), 1, (2, 1), 124])

    def test_e09(self):
        arguments = (self.byte, (1, 1), 0, (1, 3), 10)
        found = [meetings(*arguments), first_meeting(*arguments, 124), meeting_at(*arguments, 4)]
        self.assertEqual(found, [[(123, 7)], 251, 635])

    def test_e10(self):
        byte = self.byte
        found = [
            meetings(byte, (5, 1), 3, (5, 1), 3), meetings(byte, (5, 1), 3, (5, 1), 4), nearness(byte, (1, 2), 0, (1, 4), 1),
        ]
        self.assertEqual(found, [[(0, 0)], [], (0, 0)])

    def test_e11(self):
        self.check_error("one", meetings, self.byte, (4, 1), 0, (1, 3), 10)

    def test_e201(self):
        self.assertEqual([result(self.byte, (3, 200), 19), result(self.small, (3, 200), 0)], [1, -56])

    def test_e202(self):
        byte = self.byte
        self.assertEqual(
            [total_within(byte, (3, 200), 0, 99, 0, 9), within_at(byte, (3, 200), 0, 99, 0, 9, 2)], [3, 21],
        )

    def test_e203(self):
        self.assertEqual(total_within(Kind(128, False), (3, 0), 0, 2 ** 128 - 1, 0, 9), 10)

    def test_e204(self):
        found = [least_result(self.byte, (3, 200), 0, 99), greatest_result(self.small, (3, 200), 0, 99)]
        self.assertEqual(found, [(1, 19), (127, 61)])

    def test_e205(self):
        byte = self.byte
        self.assertEqual([descents(byte, (3, 200), 0, 99), descent_at(byte, (3, 200), 0, 999, 1)], [1, 103])

    def test_e206(self):
        self.check_error("j", within_at, self.byte, (3, 200), 0, 99, 0, 9, 3)

    def test_e207(self):
        byte = self.byte
        found = [
            compares(byte, (3, 200), "<", (1, 0), 19), holds(byte, (3, 200), "<", (1, 0), 0, 99),
            holds(byte, (3, 200), "==", (1, 0), 0, 99),
        ]
        self.assertEqual(found, [True, 9, 1])
        self.assertIs(found[0], True)

    def test_e208(self):
        byte = self.byte
        found = [
            first_holding(byte, (3, 200), "<", (1, 0), 0, 99), holding_at(byte, (3, 200), "<", (1, 0), 0, 99, 8),
            last_holding(byte, (3, 200), "<", (1, 0), 0, 99),
        ]
        self.assertEqual(found, [19, 27, 27])

    def test_e209(self):
        byte = self.byte
        self.assertEqual(
            [surprises(byte, (3, 200), "<", (1, 0), 0, 99), first_surprise(byte, (1, 0), "<", (1, 1), 0, 999)], [9, 255],
        )

    def test_e210(self):
        found = [safe_values(self.small, "multiply", -1), overflow_total(self.byte, "subtract", 5, 0, 9)]
        self.assertEqual(found, [(-127, 127), 5])

    def test_e211(self):
        byte, span = self.byte, (100, 200)
        found = [pair_overflows(byte, "add", span, span), pairs_within(byte, "add", span, span, 0, 9)]
        self.assertEqual(found, [8605, 615])

    def test_e212(self):
        self.check_error("name", pair_overflows, self.byte, "multiply", (100, 200), (100, 200))

    def test_e401(self):
        byte = self.byte
        found = [rounds(byte, (0, "<", 10, 3)), rounds(byte, (250, "<=", 255, 1)), rounds(Kind(8, True), (120, ">", 0, 5))]
        self.assertEqual(found, [4, None, 2])

    def test_e402(self):
        found = [round_value(Kind(8, False), (0, "<", 10, 3), 3), end_value(Kind(8, True), (120, ">", 0, 5))]
        self.assertEqual(found, [9, -126])

    def test_e403(self):
        self.assertEqual(wraps(Kind(8, True), (120, ">", 0, 5), 2), 1)

    def test_e404(self):
        self.check_error("n", wraps, Kind(8, True), (120, ">", 0, 5), 3)

    def test_e405(self):
        loop = (0, "!=", 1, 7)
        found = [first_round(Kind(8, False), loop, 250, 255), rounds_within(Kind(8, False), loop, 250, 255, 100)]
        self.assertEqual(found, [36, 2])

    def test_e406(self):
        byte = self.byte
        self.assertEqual([endless_starts(byte, "!=", 6, 2), endless_starts(byte, "<", 250, 8)], [128, 64])

    def test_e407(self):
        self.assertEqual([stepped(self.byte, (5, 3), 1, 2), stepped(self.byte, (5, 3), 8, -1)], [43, 1])

    def test_e408(self):
        self.assertEqual([ring_of(self.byte, (5, 3), 1), ring_of(self.byte, (4, 3), 1)], [(0, 256), (4, 1)])

    def test_e409(self):
        lengths = [(1, 4), (2, 2), (4, 2), (8, 2), (16, 2), (32, 2), (64, 2)]
        self.assertEqual(ring_lengths(Kind(8, False), (5, 0)), lengths)

    def test_e410(self):
        byte = self.byte
        found = [ring_values(byte, (5, 0), 1), ring_values(byte, (3, 0), 1), ring_values(byte, (4, 3), 1)]
        self.assertEqual(found, [[(1, 2)], [(1, 3), (3, 3)], [(255, 8)]])

    def test_e411(self):
        byte = self.byte
        self.assertEqual([steps_between(byte, (5, 3), 1, 43), steps_between(byte, (3, 0), 1, 5)], [2, None])

    def test_e412(self):
        byte = self.byte
        found = [all_steps(byte, (3, 0), 1, 9), all_steps(byte, (4, 3), 1, 31), all_steps(byte, (4, 3), 1, 255)]
        self.assertEqual(found, [(2, 64), (2, 0), (4, 1)])

    def test_e413(self):
        byte = self.byte
        self.assertEqual([low_steps(byte, (5, 3), 1, 3, 4), low_steps(byte, (5, 3), 1, 0, 0)], [(10, 16), (0, 1)])

    def test_e414(self):
        self.assertEqual(first_met(Kind(8, False), (5, 3), 1, [218, 43]), (2, 43))

    def test_e501(self):
        square = [-1, 0, 1]
        found = [roots_within(self.small, square, -127, 0), roots_within(self.byte, [0, 0, 1], 1, 100)]
        self.assertEqual(found, [2, 6])

    def test_e502(self):
        square = [-1, 0, 1]
        self.assertEqual([root_at(self.small, square, 0), root_at(self.byte, square, 3)], [-127, 255])

    def test_e503(self):
        square = [-1, 0, 1]
        self.assertEqual([root_above(self.small, square, 1), root_below(self.small, square, -127)], [127, None])

    def test_e504(self):
        square = [-1, 0, 1]
        found = [common_roots(self.byte, [square, [1, 1]]), common_roots(self.byte, [[0, 0, 1], [0, 32]])]
        self.assertEqual(found, [[(255, 8)], [(0, 4)]])

    def test_e505(self):
        self.assertEqual(root_counts(self.byte, [[0, 0, 1], [0, 32]]), [224, 16, 16])

    def test_e506(self):
        self.check_error("j", root_at, self.byte, [-1, 0, 1], 4)

    def test_e507(self):
        byte = self.byte
        self.assertEqual([are_alike(byte, [0, 128, 128], [0]), first_unlike(byte, [0, 1], [0, 0, 1])], [True, 2])

    def test_e508(self):
        found = [
            unlike_total(self.byte, [0, 1], [0, 0, 1], 0, 255), unlike_at(self.small, [0, 1], [0, 0, 1], -1, 9, 1),
        ]
        self.assertEqual(found, [254, 2])

    def test_e509(self):
        found = [normal_form(self.byte, [0, 128, 128]), normal_form(self.byte, [0, 0, 1]), of_form([0, 1, 1])]
        self.assertEqual(found, [[], [0, 1, 1], [0, 0, 1]])

    def test_e510(self):
        byte = self.byte
        found = [permutes(byte, [0, 1, 2]), permutes(byte, [0, 1, 1]), argument_of(byte, [0, 1, 2], 10)]
        self.assertEqual(found, [True, False, 2])

    def test_e511(self):
        self.check_error("polynomial", argument_of, self.byte, [0, 2], 10)

    def test_e701(self):
        row = shortest([self.small, Kind(16, False), Kind(32, True)])
        found = [row == [self.small, Kind(16, False)], len(row), do_same([Kind(16, True), self.byte], [self.byte])]
        self.assertEqual(found, [True, 2, True])

    def test_e702(self):
        byte, small = self.byte, self.small
        self.assertEqual(shortest([byte, small]), [small])
        self.assertEqual(shortest([small, byte]), [byte])
        self.assertEqual(shortest([small, small, small]), [small])

    def test_e703(self):
        byte, small, word = self.byte, self.small, self.word
        found = [survivors(byte, [small]), survivors(word, [small, word]), survivor_total(word, [small, word])]
        self.assertEqual(found, [[(0, 127)], [(0, 127), (65408, 65535)], 256])

    def test_e704(self):
        found = [
            results(self.small, [self.word]), results(self.byte, [self.small]), results(self.word, [Kind(1, True)]),
        ]
        self.assertEqual(found, [[(0, 127), (65408, 65535)], [(-128, 127)], [(-1, 0)]])

    def test_e705(self):
        small, word = self.small, self.word
        found = [origin_total(word, [small], -1), origin_at(word, [small], -1, 1), origin_total(word, [small], 128)]
        self.assertEqual(found, [256, 511, 0])

    def test_e706(self):
        self.check_error("j", origin_at, self.word, [self.small], 128, 0)

    def test_e707(self):
        byte, small = self.byte, self.small
        found = [
            apart_total(byte, [small], [byte]), apart_at(byte, [small], [byte], 0), apart_total(small, [byte], [small]),
        ]
        self.assertEqual(found, [128, 128, 128])

    def test_e708(self):
        self.assertEqual(shortest_for(self.byte, [Kind(16, True), Kind(32, False)]), [self.byte])
        self.assertEqual(shortest_for(self.small, [Kind(9, True), self.word]), [self.word])

    def test_e709(self):
        self.check_error("kinds", survivors, self.byte, [])

    def test_e710(self):
        desk = Desk([self.byte, self.small])
        one = desk.do(("put", 0, 300))
        two = desk.do(("multiply", 1, 0, 0))
        self.assertEqual([one, two, desk.now()[1], desk.wraps()], [44, -112, [44, -112], [0, 1]])

    def test_e711(self):
        desk = Desk([self.byte, self.small])
        with self.assertRaises(InvalidCall) as caught:
            desk.do(("divide", 0, 0, 1))
        self.assertEqual(caught.exception.call, ("divide", 0, 0, 1))

    def test_e712(self):
        desk = replay([self.byte, self.small], [("put", 0, 3), ("put", 1, 1), ("steps", 1, 0, 0, 5)])
        self.assertIsNone(desk.undo(1))
        found = [desk.before(0)[1], desk.before(2)[1], desk.waiting(), desk.wraps()]
        self.assertEqual(found, [[3, 1], [0, 0], [("steps", 1, 0, 0, 5)], []])

    def test_e713(self):
        desk = replay([self.byte, self.small], [("put", 0, 3), ("put", 1, 1), ("steps", 1, 0, 0, 5)])
        self.assertEqual([desk.now()[1], desk.wraps()], [[3, 94], []])

    def test_e714(self):
        byte, small = self.byte, self.small
        desk = Desk([byte, small])
        one = desk.do(("put", 0, 200))
        two = desk.do(("kind", 0, small))
        self.assertEqual([one, two, desk.now()[0] == [small, small], desk.wraps()], [200, -56, True, [1]])


class TextTest(unittest.TestCase):

    def setUp(self):
        self.byte = Kind(8, False)
        self.small = Kind(8, True)
        self.line = (3, 200)
        self.square = [-1, 0, 1]

    def test_point_5(self):
        self.assertEqual(least(self.small), -128)

    def test_point_6(self):
        self.assertEqual(wrapped(self.small, 200), -56)
        self.assertEqual(cast([self.small, Kind(16, False)], 200), 65480)

    def test_point_7(self):
        self.assertEqual(operate(self.small, "divide", -128, -1), -128)
        self.assertEqual(operate(self.small, "remainder", -7, 2), -1)
        self.assertEqual(operate(self.small, "right", -7, 1), -4)

    def test_point_8(self):
        self.assertIs(overflows(self.small, "divide", -128, -1), True)
        self.assertEqual(inverse(self.byte, 3), 171)

    def test_point_9(self):
        self.assertEqual(result(self.byte, self.line, 19), 1)
        self.assertEqual(result(self.small, self.line, 0), -56)

    def test_point_10(self):
        self.assertEqual(total_within(self.byte, self.line, 0, 99, 0, 9), 3)
        self.assertEqual([result(self.byte, self.line, x) for x in (19, 20, 21)], [1, 4, 7])

    def test_point_11(self):
        self.assertEqual(within_at(self.byte, self.line, 0, 99, 0, 9, 2), 21)
        self.assertEqual(first_within(self.byte, self.line, 0, 99, 0, 9), 19)
        self.assertEqual(last_within(self.byte, self.line, 0, 99, 0, 9), 21)

    def test_point_12(self):
        self.assertEqual(least_result(self.byte, self.line, 0, 99), (1, 19))
        self.assertEqual(greatest_result(self.small, self.line, 0, 99), (127, 61))

    def test_point_13(self):
        self.assertEqual(descents(self.byte, self.line, 0, 99), 1)
        self.assertEqual(descent_at(self.byte, self.line, 0, 999, 1), 103)

    def test_points_14_to_16(self):
        arguments = (self.byte, (3, 200), "<", (1, 0))
        self.assertIs(compares(*arguments, 19), True)
        self.assertEqual(holds(*arguments, 0, 99), 9)
        self.assertEqual(holds(self.byte, (3, 200), "==", (1, 0), 0, 99), 1)
        self.assertEqual(holding_at(*arguments, 0, 99, 8), 27)

    def test_point_17(self):
        self.assertEqual(surprises(self.byte, (3, 200), "<", (1, 0), 0, 99), 9)
        self.assertEqual(first_surprise(self.byte, (1, 0), "<", (1, 1), 0, 999), 255)

    def test_points_18_to_20(self):
        self.assertEqual(safe_values(self.small, "multiply", -1), (-127, 127))
        self.assertEqual(overflow_total(self.byte, "subtract", 5, 0, 9), 5)
        self.assertEqual(pair_overflows(self.byte, "add", (100, 200), (100, 200)), 8605)
        self.assertEqual(pairs_within(self.byte, "add", (100, 200), (100, 200), 0, 9), 615)

    def test_point_21(self):
        self.assertEqual(root_total(self.byte, self.square), 4)
        for x in (1, 127, 129, 255):
            self.assertEqual(value_at(self.byte, self.square, x), 0)

    def test_point_22(self):
        self.assertEqual(roots(self.byte, [256]), [(0, 0)])
        self.assertEqual(roots(self.byte, [0, 0, 1]), [(0, 4)])
        self.assertEqual(roots(self.byte, self.square), [(1, 7), (127, 7)])

    def test_points_23_and_24(self):
        self.assertEqual(lift(self.byte, self.square, 1, 1), (2, 2))
        self.assertEqual(least_twos(self.byte, [0, 1, 1]), 1)
        self.assertEqual(most_twos(self.byte, [3, 0, 1]), (2, 1))

    def test_points_25_and_26(self):
        self.assertEqual([root_at(self.byte, self.square, j) for j in range(4)], [1, 127, 129, 255])
        self.assertEqual([root_at(self.small, self.square, j) for j in range(4)], [-127, -1, 1, 127])
        self.assertEqual(roots_within(self.small, self.square, -127, 0), 2)
        self.assertEqual(roots_within(self.byte, [0, 0, 1], 1, 100), 6)
        self.assertEqual(root_above(self.small, self.square, 1), 127)
        self.assertIsNone(root_below(self.small, self.square, -127))

    def test_points_27_and_28(self):
        self.assertEqual(common_roots(self.byte, [self.square, [1, 1]]), [(255, 8)])
        self.assertEqual(common_roots(self.byte, [[0, 0, 1], [0, 32]]), [(0, 4)])
        self.assertEqual(root_counts(self.byte, [[0, 0, 1], [0, 32]]), [224, 16, 16])

    def test_points_29_to_31(self):
        byte, small = self.byte, self.small
        self.assertEqual(rounds(byte, (0, "<", 10, 3)), 4)
        self.assertIsNone(rounds(byte, (250, "<=", 255, 1)))
        self.assertEqual(rounds(small, (120, ">", 0, 5)), 2)
        self.assertEqual(round_value(byte, (0, "<", 10, 3), 3), 9)
        self.assertEqual(end_value(small, (120, ">", 0, 5)), -126)
        self.assertEqual(wraps(small, (120, ">", 0, 5), 2), 1)

    def test_points_32_and_33(self):
        self.assertEqual(first_round(self.byte, (0, "!=", 1, 7), 250, 255), 36)
        self.assertEqual(rounds_within(self.byte, (0, "!=", 1, 7), 250, 255, 100), 2)
        self.assertEqual(endless_starts(self.byte, "!=", 6, 2), 128)
        self.assertEqual(endless_starts(self.byte, "<", 250, 8), 64)

    def test_points_34_to_37(self):
        byte = self.byte
        self.assertEqual(stepped(byte, (5, 3), 1, 2), 43)
        self.assertEqual(stepped(byte, (5, 3), 8, -1), 1)
        self.assertEqual(ring_of(byte, (5, 3), 1), (0, 256))
        self.assertEqual(ring_of(byte, (4, 3), 1), (4, 1))
        self.assertEqual([stepped(byte, (4, 3), 1, n) for n in range(6)], [1, 7, 31, 127, 255, 255])
        self.assertEqual(ring_lengths(byte, (5, 0)), [(1, 4), (2, 2), (4, 2), (8, 2), (16, 2), (32, 2), (64, 2)])
        self.assertEqual(ring_values(byte, (5, 0), 1), [(1, 2)])
        self.assertEqual(ring_values(byte, (3, 0), 1), [(1, 3), (3, 3)])
        self.assertEqual(ring_values(byte, (4, 3), 1), [(255, 8)])

    def test_points_38_to_41(self):
        byte = self.byte
        self.assertEqual(steps_between(byte, (5, 3), 1, 43), 2)
        self.assertIsNone(steps_between(byte, (3, 0), 1, 5))
        self.assertEqual(all_steps(byte, (3, 0), 1, 9), (2, 64))
        self.assertEqual(all_steps(byte, (4, 3), 1, 31), (2, 0))
        self.assertEqual(all_steps(byte, (4, 3), 1, 255), (4, 1))
        self.assertEqual(low_steps(byte, (5, 3), 1, 3, 4), (10, 16))
        self.assertEqual(low_steps(byte, (5, 3), 1, 0, 0), (0, 1))
        self.assertEqual(first_met(byte, (5, 3), 1, [218, 43]), (2, 43))

    def test_points_43_to_45(self):
        arguments = (self.byte, (1, 1), 0, (1, 3), 10)
        self.assertEqual(meetings(*arguments), [(123, 7)])
        self.assertEqual(meetings(self.byte, (5, 1), 3, (5, 1), 3), [(0, 0)])
        self.assertEqual(first_meeting(*arguments, 124), 251)
        self.assertEqual(meeting_at(*arguments, 4), 635)
        self.assertEqual(nearness(self.byte, (1, 2), 0, (1, 4), 1), (0, 0))

    def test_points_46_and_47(self):
        self.assertIs(are_alike(self.byte, [0, 128, 128], [0]), True)
        self.assertEqual(first_unlike(self.byte, [0, 1], [0, 0, 1]), 2)
        self.assertEqual(unlike_total(self.byte, [0, 1], [0, 0, 1], 0, 255), 254)
        self.assertEqual(unlike_at(self.small, [0, 1], [0, 0, 1], -1, 9, 1), 2)

    def test_points_48_and_49(self):
        self.assertEqual(normal_form(self.byte, [0, 128, 128]), [])
        self.assertEqual(normal_form(self.byte, [0, 0, 1]), [0, 1, 1])
        self.assertEqual(of_form([0, 1, 1]), [0, 0, 1])
        self.assertIs(permutes(self.byte, [0, 1, 2]), True)
        self.assertEqual(argument_of(self.byte, [0, 1, 2], 10), 2)

    def test_points_50_to_53(self):
        byte, small = self.byte, self.small
        self.assertEqual(shortest([small, Kind(16, False), Kind(32, True)]), [small, Kind(16, False)])
        self.assertIs(do_same([Kind(16, True), byte], [byte]), True)
        self.assertEqual(survivors(byte, [small]), [(0, 127)])
        self.assertEqual(survivors(Kind(16, False), [small, Kind(16, False)]), [(0, 127), (65408, 65535)])
        self.assertEqual(results(small, [Kind(16, False)]), [(0, 127), (65408, 65535)])
        self.assertEqual(origin_at(Kind(16, False), [small], -1, 1), 511)
        self.assertEqual(origin_at(Kind(16, False), [small], -1, 0), 255)
        self.assertEqual(apart_at(byte, [small], [byte], 0), 128)
        self.assertEqual(shortest_for(byte, [Kind(16, True), Kind(32, False)]), [byte])

    def test_points_55_and_57(self):
        desk = Desk([self.byte, self.small])
        self.assertEqual(desk.do(("put", 0, 300)), 44)
        self.assertEqual(desk.do(("multiply", 1, 0, 0)), -112)
        with self.assertRaises(InvalidCall):
            desk.do(("divide", 0, 0, 2))
        self.assertEqual(desk.wraps(), [0, 1])


if __name__ == "__main__":
    unittest.main()
