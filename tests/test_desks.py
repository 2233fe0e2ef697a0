"""Desks: points 54 to 57, against a list of states that the test keeps, and with wrong calls of all sorts."""

import copy
import unittest
from unittest import mock

from farwrap.desks import Desk, replay
from farwrap.errors import InvalidBound, InvalidCall, LimitExceeded
from farwrap.generators import stepped
from farwrap.kinds import Kind
from tests.samples import BYTE, HUGE, SMALL, TOO_LONG, WIDE_KINDS, WORD, bounds
from tests.sessions import FEW_KINDS, OPERATIONS, Draw, Model, done
from tests.wrong import (
    check_bounds, nested_dict, nested_list, nested_tuple, no_integers, no_lists, no_numbers, no_rows, other_objects,
)

BYTE_AND_SMALL = [BYTE, SMALL]


def parts(kinds):
    return [kind.parts() for kind in kinds]


def no_variables(many):
    """Objects that are no number of so many variables."""
    return no_integers() + [-1, many, many + 1, -many, HUGE, -HUGE]


def no_calls():
    """Objects that are no calls of a desk of two variables, of which number 0 holds 0."""
    calls = other_objects() + [
        True, False, 0, 1, "", "put", "puts", BYTE, [], ["put", 0, 1], ["add", 0, 0, 0], nested_list(),
        (), ("put",), ("put", 0), ("put", 0, 1, 1), (("put", 0, 1),), ("put", 0, 1, None), ("Put", 0, 1), ("", 0, 1),
        ("add",), ("add", 0), ("add", 0, 1), ("add", 0, 1, 1, 1), ("plus", 0, 1, 1), ("add ", 0, 1, 1),
        ("steps",), ("steps", 0), ("steps", 0, 1, 1), ("steps", 0, 1, 1, 1, 1), ("step", 0, 1, 1, 1),
        ("kind",), ("kind", 0), ("kind", 0, BYTE, BYTE), ("kind", BYTE, 0), ("kinds", 0, BYTE),
        (b"put", 0, 1), (None, 0, 1), (["put"], 0, 1), ({}, 0, 1), (0, "put", 1), ("undo", 1), ("redo", 0), ("now",),
        ("divide", 0, 1, 0), ("remainder", 1, 1, 0), ("divide", 0, 0, 0), {"put": 0}, Desk([BYTE]),
    ]
    for wrong in no_variables(2):
        calls += [("put", wrong, 1), ("kind", wrong, BYTE), ("steps", wrong, 0, 0, 1), ("steps", 0, wrong, 0, 1)]
        calls += [("steps", 0, 0, wrong, 1), ("xor", wrong, 0, 0), ("xor", 0, wrong, 0), ("xor", 0, 0, wrong)]
        calls += [(wrong, 0, 1), (wrong,)] + ([] if isinstance(wrong, str) else [(wrong, 0, 1, 1)])
    for wrong in no_integers() + [TOO_LONG, -TOO_LONG, HUGE, -HUGE]:
        calls += [("put", 0, wrong), ("steps", 0, 0, 0, wrong)]
    for wrong in no_integers() + [0, 8]:
        if not isinstance(wrong, Kind):
            calls.append(("kind", 0, wrong))
    return calls + [("steps", 0, 0, 0, -1), ("steps", 0, 0, 0, 1 - TOO_LONG), ("kind", 0, nested_list())]


class DrawnCallsTest(unittest.TestCase):

    def check(self, desk, model):
        kinds, held = desk.now()
        self.assertEqual((parts(kinds), held), (parts(model.now()[0]), model.now()[1]))
        self.assertEqual(desk.log(), model.calls)
        self.assertEqual(desk.waiting(), [call for _, call in reversed(model.later)])
        self.assertEqual(desk.wraps(), model.wraps())

    def check_before(self, desk, model, draw):
        most = len(model.calls)
        for count in {0, most, draw.below(most + 1)}:
            kinds, held = desk.before(count)
            self.assertEqual((parts(kinds), held), (parts(model.now(count)[0]), model.now(count)[1]))
        for function, wrong in (
            (desk.before, most + 1), (desk.undo, most + 1), (desk.redo, len(model.later) + 1), (desk.undo, -1), (desk.redo, -1),
        ):
            with self.assertRaises(InvalidBound) as caught:
                function(wrong)
            self.assertEqual(caught.exception.argument, "count")

    def drawn(self, seed, many, rows):
        """A desk and its model after some rows of calls, with some of them taken back and done again."""
        draw = Draw(seed)
        kinds = [draw.one_of(FEW_KINDS) for _ in range(many)]
        desk, model = Desk(kinds), Model(kinds)
        for _ in range(rows):
            for _ in range(draw.below(9)):
                self.do_both(desk, model, draw.call(many))
            count = draw.below(min(8, len(model.calls) + 1))
            self.assertIsNone(desk.undo(count))
            model.undo(count)
            self.check(desk, model)
            count = draw.below(len(model.later) + 1)
            self.assertIsNone(desk.redo(count))
            model.redo(count)
            self.check(desk, model)
            self.check_before(desk, model, draw)
        return kinds, desk, model

    def do_both(self, desk, model, call):
        worth = model.do(call)
        if worth is None:
            with self.assertRaises(InvalidCall) as caught:
                desk.do(call)
            self.assertIs(caught.exception.call, call)
        else:
            self.assertEqual(desk.do(call), worth, call)

    def test_sessions(self):
        for seed in range(400):
            kinds, desk, model = self.drawn(seed, 1 + seed % 5, 12)
            again = replay(kinds, desk.log())
            self.assertEqual(again, desk)
            self.assertEqual((again.log(), again.wraps(), again.waiting()), (model.calls, model.wraps(), []))

    def test_twenty_variables(self):
        for seed in range(1000, 1006):
            self.drawn(seed, 20, 30)

    def test_all_operations_of_small_kinds(self):
        kinds = [kind for kind in FEW_KINDS if kind.parts()[0] <= 3]
        for kind in kinds:
            for other in kinds:
                for x in range(bounds(other)[0], bounds(other)[1] + 1):
                    for y in range(bounds(kind)[0], bounds(kind)[1] + 1):
                        for name in OPERATIONS:
                            self.check_operation([kind, other, kind], (0, x, y), (name, 0, 1, 2))

    def check_operation(self, kinds, held, call):
        desk = replay(kinds, [("put", 1, held[1]), ("put", 2, held[2])])
        found = done(kinds, held, call)
        if found is None:
            with self.assertRaises(InvalidCall):
                desk.do(call)
            self.assertEqual(desk.now()[1], list(held))
        else:
            self.assertEqual(desk.do(call), found[1][0])
            self.assertEqual(desk.wraps(), [2] if found[2] else [])


class EdgesTest(unittest.TestCase):

    def test_examples(self):
        desk = Desk(BYTE_AND_SMALL)
        self.assertEqual(desk.do(("put", 0, 300)), 44)
        self.assertEqual(desk.do(("multiply", 1, 0, 0)), -112)
        with self.assertRaises(InvalidCall) as caught:
            desk.do(("divide", 0, 0, 2))
        self.assertEqual(caught.exception.call, ("divide", 0, 0, 2))
        self.assertEqual(desk.wraps(), [0, 1])

    def test_arguments_by_name(self):
        desk = replay(calls=[("put", 0, 3), ("put", 1, 4)], kinds=BYTE_AND_SMALL)
        self.assertEqual(Desk(kinds=BYTE_AND_SMALL).do(call=("put", 0, 3)), 3)
        desk.undo(count=2)
        desk.redo(count=1)
        self.assertEqual((desk.before(count=1)[1], desk.now()[1]), ([0, 0], [3, 0]))

    def test_a_new_desk(self):
        for kinds in ([BYTE], [SMALL] * 20, FEW_KINDS, WIDE_KINDS):
            desk = Desk(kinds)
            told = desk.now()
            self.assertIs(type(told), tuple)
            self.assertEqual(told, (kinds, [0] * len(kinds)))
            self.assertEqual((desk.log(), desk.waiting(), desk.wraps(), desk.before(0)), ([], [], [], told))
            self.assertIsNone(desk.undo(0))
            self.assertIsNone(desk.redo(0))

    def test_what_others_hold_is_wrapped_first(self):
        desk = replay([BYTE, SMALL, WORD], [("put", 1, -1), ("put", 2, 258)])
        self.assertEqual(desk.do(("divide", 0, 1, 2)), 127)
        self.assertEqual(desk.do(("add", 2, 1, 1)), 65534)
        # 256 is wrapped to 0 ahead of the division.
        desk.do(("put", 2, 256))
        with self.assertRaises(InvalidCall):
            desk.do(("divide", 0, 1, 2))
        self.assertEqual(desk.do(("divide", 2, 1, 2)), 255)

    def test_a_shift_is_as_wide_as_its_own_kind(self):
        desk = replay([BYTE, WORD], [("put", 1, 9), ("put", 0, 1)])
        with self.assertRaises(InvalidCall):
            desk.do(("left", 0, 0, 1))
        self.assertEqual(desk.do(("left", 1, 0, 1)), 512)
        self.assertEqual(desk.wraps(), [])

    def test_steps_take_what_is_held_ahead_of_the_call(self):
        desk = replay([BYTE, SMALL], [("put", 0, 3)])
        # 3, then 3 * 3 + 3, and 3 * 12 + 3, with 3 and 3 all the time.
        self.assertEqual(desk.do(("steps", 0, 0, 0, 2)), 39)
        self.assertEqual(desk.do(("steps", 1, 0, 0, 1)), 39)
        self.assertEqual(desk.do(("steps", 1, 0, 0, 0)), 39)

    def test_very_many_steps(self):
        for kind in (BYTE, SMALL, *WIDE_KINDS):
            low, high = bounds(kind)
            for a, b, x in ((5, 3, 1), (3, 0, 1), (high, low, high), (4, 3, 1), (0, 9, 7), (1, 1, low)):
                for n in (10 ** 20, 2 ** 128 + 7, TOO_LONG - 1):
                    desk = replay([kind] * 3, [("put", 0, a), ("put", 1, b), ("put", 2, x), ("steps", 2, 0, 1, n)])
                    self.assertEqual(desk.now()[1], [a, b, stepped(kind, (a, b), x, n)])

    def test_the_first_step_tells_whether_steps_wrap(self):
        for n, numbers in ((0, []), (1, []), (9, []), (10 ** 50, [])):
            desk = replay([BYTE] * 2, [("put", 0, 15), ("put", 1, 2), ("steps", 0, 1, 1, n)])
            self.assertEqual(desk.wraps(), numbers)
        for n, numbers in ((0, []), (1, [2]), (10 ** 50, [2])):
            desk = replay([BYTE] * 2, [("put", 0, 128), ("put", 1, 2), ("steps", 0, 1, 1, n)])
            self.assertEqual(desk.wraps(), numbers)
        # What a and b hold is not wrapped for this: 1 * -1 + -1 is no byte.
        desk = replay([BYTE, SMALL], [("put", 0, 1), ("put", 1, -1), ("steps", 0, 1, 1, 1)])
        self.assertEqual((desk.now()[1], desk.wraps()), ([254, -1], [2]))

    def test_which_operations_wrap(self):
        for name, y, wraps in (
            ("add", 1, True), ("subtract", 1, False), ("multiply", 2, True), ("divide", -1, False), ("left", 1, True),
            ("remainder", 1, False), ("and", -1, False), ("or", -1, False), ("xor", -1, False), ("right", 1, False),
        ):
            desk = replay([SMALL] * 2, [("put", 0, 127), ("put", 1, y), (name, 0, 0, 1)])
            self.assertEqual(desk.wraps(), [2] if wraps else [], name)
        desk = replay([SMALL] * 2, [("put", 0, -128), ("put", 1, -1), ("divide", 0, 0, 1), ("remainder", 0, 0, 1)])
        self.assertEqual((desk.now()[1], desk.wraps()), ([0, -1], [2]))

    def test_puts_of_sixty_digits(self):
        for n in (TOO_LONG - 1, 1 - TOO_LONG):
            desk = Desk([BYTE])
            self.assertEqual((desk.do(("put", 0, n)), desk.wraps()), (n % 256, [0]))

    def test_a_kind_that_is_changed_and_taken_back(self):
        desk = replay([BYTE, SMALL], [("put", 0, 200), ("kind", 0, SMALL)])
        self.assertEqual(desk.now(), ([SMALL, SMALL], [-56, 0]))
        self.assertEqual((desk.wraps(), desk.before(1)), ([1], ([BYTE, SMALL], [200, 0])))
        desk.undo(1)
        self.assertEqual(desk.now(), ([BYTE, SMALL], [200, 0]))
        self.assertEqual((desk.do(("add", 0, 0, 0)), desk.waiting()), (144, []))
        self.assertEqual(desk.do(("kind", 0, Kind(4, False))), 0)
        self.assertEqual(desk.do(("kind", 0, Kind(4, False))), 0)
        self.assertEqual(desk.wraps(), [1, 2])
        desk.undo(3)
        desk.redo(2)
        self.assertEqual(desk.now(), ([Kind(4, False), SMALL], [0, 0]))
        # What it held ahead of all this does not come back with its kind.
        self.assertEqual(desk.do(("kind", 0, BYTE)), 0)

    def test_a_kind_tells_what_the_next_call_does(self):
        desk = replay([BYTE], [("put", 0, 255), ("kind", 0, WORD), ("add", 0, 0, 0), ("kind", 0, SMALL)])
        self.assertEqual((desk.now(), desk.wraps()), (([SMALL], [-2]), [3]))

    def test_a_new_call_forgets_those_that_were_taken_back(self):
        desk = replay([BYTE], [("put", 0, 1), ("put", 0, 2), ("put", 0, 3)])
        desk.undo(2)
        self.assertEqual(desk.waiting(), [("put", 0, 2), ("put", 0, 3)])
        with self.assertRaises(InvalidCall):
            desk.do(("put", 1, 1))
        self.assertEqual(desk.waiting(), [("put", 0, 2), ("put", 0, 3)])
        desk.do(("put", 0, 1))
        self.assertEqual((desk.waiting(), desk.log()), ([], [("put", 0, 1), ("put", 0, 1)]))
        with self.assertRaises(InvalidBound):
            desk.redo(1)

    def test_redo_begins_with_the_last_one_that_was_taken_back(self):
        desk = replay([BYTE], [("put", 0, n) for n in range(1, 6)])
        desk.undo(2)
        desk.undo(1)
        self.assertEqual(desk.waiting(), [("put", 0, 3), ("put", 0, 4), ("put", 0, 5)])
        desk.redo(1)
        self.assertEqual((desk.now()[1], desk.waiting()), ([3], [("put", 0, 4), ("put", 0, 5)]))
        desk.redo(2)
        self.assertEqual((desk.now()[1], desk.waiting(), len(desk.log())), ([5], [], 5))


class EqualityTest(unittest.TestCase):

    def test_desks_are_equal_if_what_they_tell_is(self):
        one, other = Desk(BYTE_AND_SMALL), Desk([Kind(8, False), Kind(8, True)])
        self.assertIs(one == other, True)
        one.do(("put", 0, 3))
        self.assertIs(one == other, False)
        self.assertIs(one != other, True)
        other.do(("put", 0, 1))
        other.do(("put", 0, 3))
        self.assertIs(one == other, True)
        other.undo(1)
        self.assertIs(one == other, False)

    def test_kinds_count(self):
        self.assertIs(Desk([BYTE]) == Desk([SMALL]), False)
        self.assertIs(Desk([BYTE]) == Desk([BYTE, BYTE]), False)
        self.assertIs(replay([BYTE], [("kind", 0, SMALL)]) == Desk([SMALL]), True)

    def test_a_desk_is_equal_to_nothing_else(self):
        desk = Desk(BYTE_AND_SMALL)
        for other in other_objects() + [desk.now(), BYTE, True, 0, "", [], [0, 0], nested_list()]:
            self.assertIs(desk == other, False)
            self.assertIs(other == desk, False)
            self.assertIs(desk != other, True)
        self.assertIs(desk == mock.ANY, False)

    def test_a_desk_equals_its_copy(self):
        desk = replay(BYTE_AND_SMALL, [("put", 0, 3)])
        other = copy.deepcopy(desk)
        self.assertEqual(desk, other)
        other.undo(1)
        self.assertNotEqual(desk, other)


class ListsTest(unittest.TestCase):

    def test_lists_that_are_passed(self):
        kinds = [BYTE, SMALL]
        calls = [("put", 0, 3), ("put", 1, 4)]
        desk, other = Desk(kinds), replay(kinds, calls)
        self.assertEqual((kinds, calls), ([BYTE, SMALL], [("put", 0, 3), ("put", 1, 4)]))
        kinds.clear()
        calls.clear()
        self.assertEqual(desk.now(), ([BYTE, SMALL], [0, 0]))
        self.assertEqual((other.now(), other.log()), (([BYTE, SMALL], [3, 4]), [("put", 0, 3), ("put", 1, 4)]))

    def test_lists_that_are_returned(self):
        desk = replay([BYTE, SMALL], [("put", 0, 300), ("put", 1, 4), ("put", 1, 5)])
        desk.undo(1)

        def told():
            return [*desk.now(), *desk.before(0), *desk.before(1), *desk.before(2), desk.log(), desk.waiting(), desk.wraps()]

        kept = copy.deepcopy(told())
        for found in told():
            self.assertIs(type(found), list)
            found.append(7)
            found[0] = 9
            found.reverse()
        self.assertEqual(told(), kept)
        desk.redo(1)
        desk.undo(3)
        self.assertEqual(desk.now(), ([BYTE, SMALL], [0, 0]))

    def test_calls_are_tuples_as_they_were_passed(self):
        calls = [("put", 0, 300), ("kind", 0, WORD), ("steps", 0, 1, 1, 10 ** 59), ("xor", 1, 0, 0)]
        desk = replay(BYTE_AND_SMALL, calls)
        self.assertEqual(desk.log(), calls)
        self.assertTrue(all(type(call) is tuple for call in desk.log()))


class LimitTest(unittest.TestCase):

    def test_a_thousand_calls_and_one_more(self):
        desk = Desk([WORD])
        for n in range(1000):
            self.assertEqual(desk.do(("put", 0, n)), n)
        for call in (("put", 0, 5), ("kind", 0, BYTE), ("add", 0, 0, 0), ("steps", 0, 0, 0, 1)):
            with self.assertRaises(LimitExceeded) as caught:
                desk.do(call)
            self.assertEqual(caught.exception.limit, 1000)
        for call in (("put", 1, 5), None, ("left", 0, 0, 0)):
            with self.assertRaises(InvalidCall):
                desk.do(call)
        self.assertEqual((len(desk.log()), desk.now()), (1000, ([WORD], [999])))
        self.check_calls_that_are_taken_back(desk)

    def check_calls_that_are_taken_back(self, desk):
        desk.undo(1)
        self.assertEqual(desk.do(("put", 0, 7)), 7)
        with self.assertRaises(LimitExceeded):
            desk.do(("put", 0, 7))
        desk.undo(1000)
        desk.redo(1000)
        self.assertEqual((desk.now()[1], desk.waiting()), ([7], []))
        desk.undo(3)
        with self.assertRaises(InvalidCall):
            desk.do(("put", 0, None))
        self.assertEqual(len(desk.waiting()), 3)
        self.assertEqual(desk.before(997)[1], [0])

    def test_a_limit_changes_nothing(self):
        desk = replay([WORD], [("put", 0, n) for n in range(1000)])
        kept = (desk.now(), desk.log(), desk.wraps())
        with self.assertRaises(LimitExceeded):
            desk.do(("put", 0, 1))
        self.assertEqual((desk.now(), desk.log(), desk.wraps()), kept)

    def test_replay_of_a_thousand_calls(self):
        calls = [("put", 0, 70000)] + [("steps", 0, 0, 0, 1)] * 999
        self.assertEqual(len(replay([WORD], calls).log()), 1000)
        with self.assertRaises(InvalidBound) as caught:
            replay([WORD], calls + [("put", 0, 1)])
        self.assertEqual(caught.exception.argument, "calls")


class WrongArgumentsTest(unittest.TestCase):

    def test_kinds(self):
        check_bounds(self, Desk, {"kinds": [BYTE] * 20}, {"kinds": no_rows()})

    def test_calls(self):
        desk = replay(BYTE_AND_SMALL, [("put", 0, 5), ("put", 1, 7), ("put", 0, 0), ("put", 0, 9)])
        desk.undo(1)
        kept = (desk.now(), desk.log(), desk.waiting(), desk.wraps())
        for place, call in enumerate(no_calls()):
            with self.subTest(place=place):
                with self.assertRaises(InvalidCall) as caught:
                    desk.do(call)
                self.assertIs(caught.exception.call, call)
        self.assertEqual((desk.now(), desk.log(), desk.waiting(), desk.wraps()), kept)

    def test_operations_with_a_wrong_y(self):
        for kind in (BYTE, SMALL, *WIDE_KINDS):
            bits = kind.parts()[0]
            for y in [bits, bits + 1, bounds(kind)[1]] + ([-1, bounds(kind)[0]] if bounds(kind)[0] else []):
                desk = replay([kind] * 2, [("put", 0, y)])
                for name in ("left", "right"):
                    with self.assertRaises(InvalidCall):
                        desk.do((name, 1, 1, 0))
                self.assertEqual(desk.now()[1], [y, 0])
            for y in (0, bits - 1):
                desk = replay([kind] * 2, [("put", 0, y), ("left", 1, 1, 0), ("right", 1, 1, 0)])
                self.assertEqual(len(desk.log()), 3)

    def test_counts(self):
        desk = replay([BYTE], [("put", 0, n) for n in range(9)])
        desk.undo(4)
        kept = (desk.now(), desk.log(), desk.waiting())
        for function, most in ((desk.undo, 5), (desk.before, 5), (desk.redo, 4)):
            for place, count in enumerate(no_numbers(most + 1)):
                for call in (lambda: function(count), lambda: function(count=count)):
                    with self.subTest(function=function.__name__, place=place):
                        with self.assertRaises(InvalidBound) as caught:
                            call()
                        self.assertEqual(caught.exception.argument, "count")
        self.assertEqual((desk.now(), desk.log(), desk.waiting()), kept)

    def test_replay(self):
        right = {"kinds": BYTE_AND_SMALL, "calls": [("put", 0, 5)] * 1000}
        check_bounds(self, replay, right, {"kinds": no_rows(), "calls": no_lists(1000)})
        self.assertEqual(replay(BYTE_AND_SMALL, []), Desk(BYTE_AND_SMALL))

    def test_replay_raises_the_error_of_the_first_wrong_call(self):
        for place, call in enumerate(no_calls()):
            with self.subTest(place=place):
                with self.assertRaises(InvalidCall) as caught:
                    replay(BYTE_AND_SMALL, [("put", 1, 7), call, ("put", 9, 9), None])
                self.assertIs(caught.exception.call, call)

    def test_errors_of_deep_calls_can_be_shown(self):
        desk = Desk([BYTE])
        for deep in (nested_list(), nested_tuple(), nested_dict()):
            for call in (deep, (deep,), ("put", 0, deep), (deep, 0, 0, 0), ("kind", 0, deep)):
                with self.assertRaises(InvalidCall) as caught:
                    desk.do(call)
                self.assertIsInstance(str(caught.exception), str)


if __name__ == "__main__":
    unittest.main()
