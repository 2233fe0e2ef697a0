"""The interface: names, arguments, the files of definition, and the methods of classes."""

import importlib
import inspect
import unittest

FUNCTIONS = {
    "farwrap.wholes": {"is_integer": ["value"]},
    "farwrap.kinds": {
        "least": ["kind"],
        "greatest": ["kind"],
        "is_value": ["kind", "x"],
        "wrapped": ["kind", "n"],
        "cast": ["kinds", "n"],
        "operate": ["kind", "name", "x", "y"],
        "overflows": ["kind", "name", "x", "y"],
        "inverse": ["kind", "x"],
        "twos": ["kind", "x"],
    },
    "farwrap.lines": {
        "result": ["kind", "line", "x"],
        "total_within": ["kind", "line", "first", "last", "low", "high"],
        "first_within": ["kind", "line", "first", "last", "low", "high"],
        "last_within": ["kind", "line", "first", "last", "low", "high"],
        "within_at": ["kind", "line", "first", "last", "low", "high", "j"],
        "least_result": ["kind", "line", "first", "last"],
        "greatest_result": ["kind", "line", "first", "last"],
        "descents": ["kind", "line", "first", "last"],
        "descent_at": ["kind", "line", "first", "last", "j"],
    },
    "farwrap.comparisons": {
        "compares": ["kind", "one", "relation", "other", "x"],
        "holds": ["kind", "one", "relation", "other", "first", "last"],
        "first_holding": ["kind", "one", "relation", "other", "first", "last"],
        "last_holding": ["kind", "one", "relation", "other", "first", "last"],
        "holding_at": ["kind", "one", "relation", "other", "first", "last", "j"],
        "surprises": ["kind", "one", "relation", "other", "first", "last"],
        "first_surprise": ["kind", "one", "relation", "other", "first", "last"],
        "overflow_total": ["kind", "name", "c", "first", "last"],
        "safe_values": ["kind", "name", "c"],
        "pair_overflows": ["kind", "name", "xs", "ys"],
        "pairs_within": ["kind", "name", "xs", "ys", "low", "high"],
    },
    "farwrap.roots": {
        "value_at": ["kind", "polynomial", "x"],
        "root_total": ["kind", "polynomial"],
        "roots": ["kind", "polynomial"],
        "lift": ["kind", "polynomial", "first", "k"],
        "least_twos": ["kind", "polynomial"],
        "most_twos": ["kind", "polynomial"],
    },
    "farwrap.ranges": {
        "roots_within": ["kind", "polynomial", "first", "last"],
        "root_at": ["kind", "polynomial", "j"],
        "root_above": ["kind", "polynomial", "x"],
        "root_below": ["kind", "polynomial", "x"],
        "common_roots": ["kind", "polynomials"],
        "root_counts": ["kind", "polynomials"],
    },
    "farwrap.loops": {
        "rounds": ["kind", "loop"],
        "round_value": ["kind", "loop", "n"],
        "end_value": ["kind", "loop"],
        "wraps": ["kind", "loop", "n"],
        "first_round": ["kind", "loop", "low", "high"],
        "rounds_within": ["kind", "loop", "low", "high", "n"],
        "endless_starts": ["kind", "word", "b", "c"],
    },
    "farwrap.generators": {
        "stepped": ["kind", "generator", "x", "n"],
        "ring_of": ["kind", "generator", "x"],
        "ring_lengths": ["kind", "generator"],
        "ring_values": ["kind", "generator", "x"],
    },
    "farwrap.logarithms": {
        "steps_between": ["kind", "generator", "x", "y"],
        "all_steps": ["kind", "generator", "x", "y"],
        "low_steps": ["kind", "generator", "x", "y", "bits"],
        "first_met": ["kind", "generator", "x", "some"],
    },
    "farwrap.meetings": {
        "meetings": ["kind", "one", "x", "other", "y"],
        "meeting_total": ["kind", "one", "x", "other", "y"],
        "first_meeting": ["kind", "one", "x", "other", "y", "first"],
        "meeting_at": ["kind", "one", "x", "other", "y", "j"],
        "nearness": ["kind", "one", "x", "other", "y"],
    },
    "farwrap.alike": {
        "are_alike": ["kind", "one", "other"],
        "first_unlike": ["kind", "one", "other"],
        "unlike_total": ["kind", "one", "other", "first", "last"],
        "unlike_at": ["kind", "one", "other", "first", "last", "j"],
        "normal_form": ["kind", "polynomial"],
        "of_form": ["form"],
        "permutes": ["kind", "polynomial"],
        "argument_of": ["kind", "polynomial", "y"],
    },
    "farwrap.casts": {
        "do_same": ["kinds", "others"],
        "shortest": ["kinds"],
        "survivors": ["kind", "kinds"],
        "survivor_total": ["kind", "kinds"],
        "results": ["kind", "kinds"],
        "origin_total": ["kind", "kinds", "y"],
        "origin_at": ["kind", "kinds", "y", "j"],
        "apart_total": ["kind", "kinds", "others"],
        "apart_at": ["kind", "kinds", "others", "j"],
        "shortest_for": ["kind", "kinds"],
    },
    "farwrap.desks": {"replay": ["kinds", "calls"]},
}
CLASSES = {
    "farwrap.errors": {
        "WrapError": (None, {}),
        "InvalidKind": (["part"], {}),
        "InvalidBound": (["argument"], {}),
        "InvalidCall": (["call"], {}),
        "LimitExceeded": (["limit"], {}),
    },
    "farwrap.kinds": {"Kind": (["bits", "is_signed"], {"parts": [], "__eq__": ["other"]})},
    "farwrap.desks": {
        "Desk": (["kinds"], {
            "now": [], "do": ["call"], "undo": ["count"], "redo": ["count"], "before": ["count"],
            "log": [], "waiting": [], "wraps": [], "__eq__": ["other"],
        }),
    },
}


class InterfaceTest(unittest.TestCase):

    def check_arguments(self, call, names):
        parameters = list(inspect.signature(call).parameters.values())
        self.assertEqual([parameter.name for parameter in parameters], names)
        for parameter in parameters:
            self.assertEqual(parameter.kind, inspect.Parameter.POSITIONAL_OR_KEYWORD)

    def test_functions(self):
        for path, functions in FUNCTIONS.items():
            for name, arguments in functions.items():
                function = getattr(importlib.import_module(path), name)
                self.assertTrue(inspect.isfunction(function))
                self.assertEqual(function.__module__, path)
                self.check_arguments(function, arguments)

    def test_classes(self):
        for path, classes in CLASSES.items():
            for name, (fields, methods) in classes.items():
                found = getattr(importlib.import_module(path), name)
                self.assertTrue(inspect.isclass(found))
                self.assertEqual(found.__module__, path)
                if fields is not None:
                    self.check_arguments(found, fields)
                for method, arguments in methods.items():
                    self.assertIn(method, vars(found))
                    self.check_arguments(vars(found)[method], ["self", *arguments])


if __name__ == "__main__":
    unittest.main()
