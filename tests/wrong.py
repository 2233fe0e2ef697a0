"""Wrong arguments of all types, and checks that each of them leads to the stated error."""

from itertools import combinations

from farwrap import errors
from farwrap.errors import InvalidBound
from farwrap.kinds import Kind

DEPTH = 1980
RELATIONS = ("<", "<=", "==", "!=", ">=", ">")


def nested_list(depth=DEPTH):
    value = []
    for _ in range(depth):
        value = [value]
    return value


def nested_tuple(depth=DEPTH):
    value = ()
    for _ in range(depth):
        value = (value,)
    return value


def nested_dict(depth=DEPTH):
    value = {}
    for _ in range(depth):
        value = {0: value}
    return value


def other_objects():
    """Objects that are neither integers, nor booleans, strings, lists or kinds."""
    return [
        None, 1j, b"add", bytearray(b"add"), memoryview(b"add"), (), (1,), (True, 2), {}, {"add": 1},
        set(), {1, 2}, frozenset(), range(3), slice(1, 2), Ellipsis, NotImplemented, object(),
        int, bool, Kind, InvalidBound, len, other_objects, lambda x: x, errors, iter([1]), zip([1]),
        (x for x in (1, 2)), ValueError("add"), InvalidBound("x"), nested_tuple(), nested_dict(),
    ]


def no_integers():
    return other_objects() + [
        True, False, "", "1", "add", [], [1], [True], [Kind(8, False)], Kind(8, False), nested_list(),
    ]


def no_booleans():
    return other_objects() + [0, 1, -1, 2, "", "True", [], [True], Kind(8, False), nested_list()]


def no_strings():
    return other_objects() + [True, False, 0, 1, [], ["add"], Kind(8, False), nested_list()]


def no_kinds():
    return other_objects() + [
        True, False, 0, 8, "", "kind", [], [Kind(8, False)], (8, False), (Kind(8, False),), nested_list(),
    ]


def no_rows():
    """Objects that are no list of 1 to 20 kinds."""
    byte = Kind(8, False)
    return other_objects() + [
        True, False, 0, 1, "", "kinds", byte, (byte,), {0: byte}, [], [byte] * 21, [byte] * 400,
        [0], [True], [None], ["byte"], [(8, False)], [byte, None], [None, byte], [byte] * 19 + [8],
        [[byte]], [byte, [byte]], [Kind], [{}], [set()], nested_list(), [byte, nested_list()],
        [byte, nested_tuple()],
    ]


def not_values(kind):
    """Objects that are no value of a kind, worked out from its parts."""
    bits, is_signed = kind.parts()
    low = -(2 ** (bits - 1)) if is_signed else 0
    high = low + 2 ** bits - 1
    return no_integers() + [low - 1, high + 1, low - 2 ** bits, high + 2 ** bits, 10 ** 999, -(10 ** 999)]


def no_words(words):
    """Objects that are none of some strings."""
    longer = ["", " ", "x" * 5000, "".join(words), " ".join(words), ",".join(words)]
    changed = [form for word in words for form in (word + " ", " " + word, word + word, word + "\n")]
    return no_strings() + longer + changed + [list(words), tuple(words), [words[0]], (words[0],), {words[0]}]


def no_relations():
    return no_words(RELATIONS) + ["=", "<>", "=<", "=>", "===", "><", "is", "in", "lt"]


def no_operations(names):
    others = ["add", "subtract", "multiply", "divide", "remainder", "and", "or", "xor", "left", "right"]
    return no_words(names) + [name for name in others if name not in names] + ["Add", "ADD", "plus", "+", "-"]


def not_sixty_digits():
    """Objects that are no integer of at most 60 digits."""
    return no_integers() + [10 ** 60, -(10 ** 60), 10 ** 60 + 7, 10 ** 999, -(10 ** 999)]


def not_lines():
    """Objects that are no tuple of two integers of at most 60 digits."""
    parts = [True, False, None, "1", 1j, [1], (1,), {}, Kind(8, False), 10 ** 60, -(10 ** 60), 10 ** 999]
    parts += [nested_list(), nested_tuple()]
    halves = [pair for part in parts for pair in ((part, 1), (1, part), (part, part))]
    rows = [[1, 2], [1], (), (1,), (1, 2, 3), ((1, 2),), (1, 2) * 500, {1: 2}, {1, 2}, "12", range(2)]
    return no_integers() + rows + halves + [0, 1, 10 ** 60]


def not_spans(kind):
    """Objects that are no tuple of two values of a kind, in order."""
    bits, is_signed = kind.parts()
    low = -(2 ** (bits - 1)) if is_signed else 0
    high = low + 2 ** bits - 1
    pairs = [(high, low), (low - 1, high), (low, high + 1), (low - 1, low - 1), (high + 1, high + 1), (high, high - 1)]
    parts = [True, False, None, "1", [low], (low,), Kind(8, False), 10 ** 999, -(10 ** 999), nested_list()]
    halves = [pair for part in parts for pair in ((part, high), (low, part), (part, part))]
    rows = [[low, high], [low], (), (low,), (low, high, high), ((low, high),), {low: high}, range(2), 0, low, high]
    return no_integers() + pairs + halves + rows


def not_polynomials():
    """Objects that are no list of 1 to 9 integers of at most 60 digits."""
    parts = [True, False, None, "1", 1j, b"1", [1], [], (1,), {}, Kind(8, False), 10 ** 60, -(10 ** 60), 10 ** 999]
    parts += [nested_list(), nested_tuple()]
    lists = [row for part in parts for row in ([part], [1, part], [part, 1], [1] * 8 + [part], [part] * 9)]
    rows = [[], [0] * 10, [1] * 10, [1] * 400, (1,), (1, 2), {1: 2}, {1, 2}, "12", range(1, 3), b"12", 0, 1]
    wrong = [value for value in no_integers() if value != [1]]
    return wrong + lists + rows


def not_lists_of_polynomials():
    """Objects that are no list of 1 to 8 polynomials."""
    wrong = not_polynomials()
    alone = [[value] for value in wrong]
    among = [[[0, 1], value] for value in wrong] + [[value, [0, 1]] for value in wrong]
    rows = [[], [[1]] * 9, [[0, 1]] * 400, ([1],), ([0, 1], [1]), {0: [1]}, [1], [0, 1], [[1], 1], [[[1]]], 0, 1]
    return no_integers() + rows + alone + among


def no_counts():
    """Objects that are no integer from 0 on."""
    return no_integers() + [-1, -2, -(2 ** 128), -(10 ** 999)]


def not_loops(kind):
    """Objects that are no loop of a kind, worked out from its parts."""
    bits, is_signed = kind.parts()
    low = -(2 ** (bits - 1)) if is_signed else 0
    high = low + 2 ** bits - 1
    parts = [True, False, None, "<", 1j, [low], (low,), {}, Kind(8, False), low - 1, high + 1, 10 ** 999, -(10 ** 999)]
    parts += [nested_list(), nested_tuple()]
    words = [True, 0, None, "", "=", "<>", "<<", " <", "< ", b"<", ["<"], ("<",), {"<"}, "add", nested_list()]
    loops = [loop for part in parts for loop in ((part, "<", high, low), (low, "<", part, high), (low, "<", high, part))]
    loops += [(low, word, high, high) for word in words] + [(part, part, part, part) for part in parts]
    rows = [[low, "<", high, low], [], (), (low,), (low, "<", high), (low, "<", high, low, low), ((low, "<", high, low),)]
    rows += ["low", "<<<<", {low: "<"}, ("<", low, high, low), (low, high, "<", low), (low, low, low, low), low, high]
    return no_integers() + loops + rows


def not_generators(kind):
    """Objects that are no tuple of two values of a kind, worked out from its parts."""
    bits, is_signed = kind.parts()
    low = -(2 ** (bits - 1)) if is_signed else 0
    high = low + 2 ** bits - 1
    parts = [True, False, None, "1", 1j, [low], (low,), {}, Kind(8, False), low - 1, high + 1, 10 ** 999, -(10 ** 999)]
    parts += [nested_list(), nested_tuple()]
    halves = [pair for part in parts for pair in ((part, low), (high, part), (part, part))]
    rows = [[low, high], [low], (), (low,), (low, high, high), ((low, high),), {low: high}, range(2), "12", low, high]
    return no_integers() + halves + rows


def not_odd_generators(kind):
    """Objects that are no generator of a kind with an odd multiplier."""
    bits, is_signed = kind.parts()
    low = -(2 ** (bits - 1)) if is_signed else 0
    high = low + 2 ** bits - 1
    even = [a for a in (low, low + 1, high - 1, high, 0) if a % 2 == 0]
    return not_generators(kind) + [(a, c) for a in even for c in (low, high)]


def not_forms():
    """Objects that are no list of 0 to 9 integers of at most 60 digits."""
    return [value for value in not_polynomials() if value != []]


def no_lists(most):
    """Objects that are no list of at most so many items."""
    wrong = [value for value in no_integers() if not isinstance(value, list)]
    return wrong + [0, 1, [None] * (most + 1), [("put", 0, 1)] * (most + 1), (("put", 0, 1),), range(3)]


def not_choices(kind):
    """Objects that are no list of 1 to 20 values of a kind, worked out from its parts."""
    bits, is_signed = kind.parts()
    low = -(2 ** (bits - 1)) if is_signed else 0
    high = low + 2 ** bits - 1
    parts = [True, False, None, "1", 1j, [low], [], (low,), {}, kind, low - 1, high + 1, 10 ** 999, -(10 ** 999)]
    parts += [nested_list(), nested_tuple()]
    lists = [row for part in parts for row in ([part], [low, part], [part, low], [low] * 19 + [part], [part] * 20)]
    rows = [[], [low] * 21, [high] * 400, (), (low,), (low, high), {low: high}, {low, high}, range(2), "12", low, high]
    wrong = [value for value in no_integers() if value != [1]]
    return wrong + lists + rows


def no_numbers(total):
    """Objects that are no integer from 0 to total - 1."""
    return no_integers() + [-1, -total, -total - 1, total, total + 1, 2 * total + 1, 10 ** 999, -(10 ** 999)]


def check_bounds(case, call, right, wrong):
    """Check that `call` names the first wrong argument, for each one alone and for all sets of them.

    `right` maps the names of the arguments, in their order, to ones that are taken, and `wrong`
    some of these names to lists of ones that are not.
    """
    call(**right)
    for name, values in wrong.items():
        for place, value in enumerate(values):
            check_bound(case, call, {**right, name: value}, name, place)
    for count in range(2, len(wrong) + 1):
        for names in combinations([name for name in right if name in wrong], count):
            for place in range(max(len(wrong[name]) for name in names)):
                changes = {name: wrong[name][place % len(wrong[name])] for name in names}
                check_bound(case, call, {**right, **changes}, names[0], place)


def check_bound(case, call, arguments, name, place=0):
    """Check that a call raises InvalidBound(name), with arguments by name and by position."""
    for form in (lambda: call(**arguments), lambda: call(*arguments.values())):
        # The wrong object itself is not shown: it may be nested too deep for that.
        with case.subTest(function=call.__name__, argument=name, place=place):
            with case.assertRaises(InvalidBound) as caught:
                form()
            case.assertEqual(caught.exception.argument, name)
