import unittest

from leastlinks.code import calls_in, is_expression, is_function, is_kind
from leastlinks.errors import InvalidCode
from tests.support import EqualToAll, ErrorCase, NoComparing, odd_values, without_kind

FONT = ("font", 1)
MAKE = ("make", 1)


def nested(depth, inner=MAKE):
    """An expression that is so deep, the innermost part counted."""
    return inner if depth == 1 else ("plus", nested(depth - 1, inner), 1)


def wide(count):
    """An expression with so many expressions in it, itself included, nested at most five deep."""
    if count == 1:
        return MAKE
    arguments = []
    left = count - 1
    for places in range(min(4, left), 0, -1):
        size = (left + places - 1) // places
        arguments.append(wide(size))
        left -= size
    return ("call", None, "f", tuple(arguments))


NO_INTEGERS = [True, False, None, "1", b"1", (1,), [1], {}, (), NoComparing(), EqualToAll()]
NO_COUNTS = NO_INTEGERS + [-1, -(10 ** 29)]
NO_LABELS = ["font", "own", "", True, 0, ["font", 1], ("font", True), ("font", -1), ("Font", 1), ("font",), ("font", 1, 1), (FONT,), ()]
NO_NAMES = [None, "", "F", "abcdefghi", "f g", b"f", 1, True, ("f",), ["f"], EqualToAll()]
NO_EXPRESSIONS = [
    None, 1, True, "make", (), [], ("make",), ["make", 1], ("make", 1, 1), ("param",), ("param", 0, 0), ("plus", MAKE), ("plus", 1, MAKE),
    ("plus", MAKE, 1, 1), ("call", None, "f"), ("call", None, "f", (), ()), ("call", "f", ()), ("do", MAKE), ("do", MAKE, MAKE, MAKE),
    ("if", MAKE, MAKE), ("if", MAKE, MAKE, MAKE, MAKE), ("Make", 1), ("makes", 1), ("", 1), (None, 1), (b"make", 1), (True, 1),
    (EqualToAll(), 1), (NoComparing(), 1), ("own", 1), (("make",), 1), ("call", None, ("f",), ()), ["do", MAKE, MAKE], MAKE[:1] * 2,
]


def everywhere(value):
    """Expressions with a value in the place of each expression in them."""
    return [
        ("plus", value, 1), ("do", value, MAKE), ("do", MAKE, value), ("if", value, MAKE, MAKE), ("if", MAKE, value, MAKE),
        ("if", MAKE, MAKE, value), ("call", None, "f", (value,)), ("call", FONT, "f", (MAKE, MAKE, MAKE, value)),
        ("plus", ("do", ("if", MAKE, MAKE, ("call", None, "f", (MAKE, value))), MAKE), 1),
    ]


class KindTest(ErrorCase):
    def test_kinds(self):
        for value in ["own", FONT, ("a", 0), ("abcdefgh", 10 ** 29)]:
            self.assertIs(True, is_kind(value))
        self.assertIs(True, is_kind(value="own"))

    def test_values_that_are_no_kinds(self):
        for value in [each for each in NO_LABELS if each != "own"] + ["Own", "owns", b"own", ("own",), ["own"]] + odd_values():
            self.assertIs(False, is_kind(value))


class ExpressionTest(ErrorCase):
    def test_expressions_of_each_form(self):
        right = [
            MAKE, ("make", 0), ("make", -(10 ** 29)), ("param", 0), ("param", 10 ** 29), ("plus", MAKE, -2), ("plus", MAKE, 0),
            ("call", None, "f", ()), ("call", FONT, "abcdefgh", (MAKE,) * 4), ("do", MAKE, ("param", 3)), ("if", MAKE, MAKE, MAKE),
        ]
        for value in right + [each for inner in right for each in everywhere(inner)[:-1]]:
            self.assertIs(True, is_expression(value))
        self.assertIs(True, is_expression(value=MAKE))

    def test_values_that_are_no_expressions(self):
        wrong = NO_EXPRESSIONS + odd_values()
        for value in wrong + [each for inner in wrong for each in everywhere(inner)]:
            self.assertIs(False, is_expression(value))

    def test_one_part_that_is_wrong(self):
        wrong = [("make", value) for value in NO_INTEGERS] + [("plus", MAKE, value) for value in NO_INTEGERS]
        wrong += [("param", value) for value in NO_COUNTS]
        wrong += [("call", value, "f", ()) for value in NO_LABELS] + [("call", None, value, ()) for value in NO_NAMES]
        wrong += [("call", None, "f", value) for value in [[], None, {}, "", MAKE, [MAKE], (MAKE,) * 5, (1,), (None,), ((MAKE,),)]]
        for value in wrong + [each for inner in wrong for each in everywhere(inner)]:
            self.assertIs(False, is_expression(value), value[0])
        for value in without_kind(odd_values(), int):
            self.assertEqual([False] * 3, [is_expression(each) for each in [("make", value), ("param", value), ("plus", MAKE, value)]])

    def test_five_deep_and_six(self):
        for inner in [MAKE, ("param", 0), ("call", None, "f", ())]:
            self.assertEqual([True, False, False], [is_expression(nested(depth, inner)) for depth in (5, 6, 7)])
        for place in range(4):
            four = nested(4)
            arguments = (MAKE,) * place + (four,) + (MAKE,) * (3 - place)
            self.assertIs(True, is_expression(("call", FONT, "f", arguments)))
            self.assertIs(False, is_expression(("call", FONT, "f", arguments[:place] + (nested(5),) + arguments[place + 1:])))
        for deep, right in [(nested(4), True), (nested(5), False)]:
            self.assertEqual([right] * 8, [is_expression(each) for each in everywhere(deep)[:-1]])

    def test_thirty_expressions_and_thirty_one(self):
        self.assertEqual([True, True, False, False], [is_expression(wide(count)) for count in (29, 30, 31, 40)])
        pair = ("do", MAKE, MAKE)
        # Each time a part stands in an expression it counts.
        six = ("if", MAKE, pair, MAKE)
        thirteen = ("do", six, six)
        self.assertIs(True, is_expression(("if", thirteen, pair, thirteen)))
        self.assertIs(False, is_expression(("if", thirteen, ("if", MAKE, MAKE, MAKE), thirteen)))

    def test_four_arguments_and_five(self):
        self.assertEqual([True, False], [is_expression(("call", None, "f", (MAKE,) * count)) for count in (4, 5)])


class FunctionTest(ErrorCase):
    def test_functions(self):
        right = [("f", (), "own", MAKE), ("abcdefgh", ("own", FONT, ("page", 0), "own"), FONT, nested(5)), ("f", (FONT,), "own", wide(30))]
        for value in right:
            self.assertIs(True, is_function(value))
        # The form alone is asked for: there are no such parameters and functions.
        self.assertIs(True, is_function(value=("f", (), "own", ("call", None, "g", (("param", 7),)))))

    def test_values_that_are_no_functions(self):
        for value in [(), ("f", (), "own"), ("f", (), "own", MAKE, MAKE), ["f", (), "own", MAKE], "f", None, MAKE] + odd_values():
            self.assertIs(False, is_function(value))

    def test_one_part_that_is_wrong(self):
        wrong = [(value, (), "own", MAKE) for value in NO_NAMES]
        no_kinds = [value for value in NO_LABELS if value != "own"] + [None]
        wrong += [("f", (), value, MAKE) for value in no_kinds]
        wrong += [("f", ("own",) * count + (value,), "own", MAKE) for value in no_kinds for count in (0, 3)]
        wrong += [("f", value, "own", MAKE) for value in [[], None, "own", ["own"], {}, FONT, ("own",) * 5, (("own",),)]]
        wrong += [("f", (), "own", value) for value in NO_EXPRESSIONS + odd_values() + [nested(6), wide(31)]]
        for value in wrong:
            self.assertIs(False, is_function(value))

    def test_four_parameters_and_five(self):
        self.assertEqual([True, False], [is_function(("f", (FONT,) * count, "own", MAKE)) for count in (4, 5)])


class CallsInTest(ErrorCase):
    def test_the_sequence_of_the_calls(self):
        one, two = ("call", None, "one", ()), ("call", FONT, "two", ())
        outer = ("call", FONT, "outer", (one, MAKE, two, ("plus", ("do", two, one), 1)))
        self.assertEqual([(FONT, "outer"), (None, "one"), (FONT, "two"), (FONT, "two"), (None, "one")], list(calls_in(outer)))
        self.assertEqual([(None, "one"), (FONT, "two"), (None, "one")], list(calls_in(("if", one, two, one))))
        self.assertEqual([(FONT, "two"), (None, "one")], list(calls_in(("do", two, ("plus", one, 0)))))
        deep = ("call", None, "a", (("call", None, "b", (("call", FONT, "c", ()),)), ("call", FONT, "d", ())))
        self.assertEqual([(None, "a"), (None, "b"), (FONT, "c"), (FONT, "d")], list(calls_in(expression=deep)))

    def test_no_calls(self):
        for value in [MAKE, ("param", 0), ("do", MAKE, ("plus", MAKE, 1)), ("if", MAKE, MAKE, MAKE)]:
            self.assertEqual([], list(calls_in(value)))

    def test_it_raises_when_the_iteration_begins(self):
        for value in NO_EXPRESSIONS + odd_values() + [nested(6), wide(31), ("do", ("call", None, "f", ()), ("make", True))]:
            calls = calls_in(value)
            self.assert_fails(InvalidCode, {"value": value}, next, calls)
            self.assertEqual([], list(calls))

    def test_two_iterations_by_turns(self):
        outer = ("call", FONT, "outer", (("call", None, "one", ()), ("call", FONT, "two", ())))
        one, other = calls_in(outer), calls_in(outer[3][0])
        self.assertIs(one, iter(one))
        self.assertEqual([(FONT, "outer"), (None, "one"), (None, "one")], [next(one), next(other), next(one)])
        self.assertEqual([[(FONT, "two")], []], [list(one), list(other)])


if __name__ == "__main__":
    unittest.main()
