import itertools
import random
import unittest

from leastlinks.errors import InvalidCode, InvalidCount, TooManySteps
from leastlinks.library import Library
from leastlinks.linkages import Linkage
from leastlinks.projects import Project
from leastlinks.resolving import resolve
from leastlinks.running import calls, run, stray_calls
from tests.coding import Enough, drawn_library, drawn_main_code, inks, is_stray_by_the_words, row_of, run_by_the_words
from tests.coding import with_counters
from tests.drawing import all_linkages, drawn_locks, drawn_needs, is_solution_by_the_words, separate_rows
from tests.support import ErrorCase, NoComparing, odd_values
from tests.test_code import NO_EXPRESSIONS, nested, wide

INK, PEN, BOX = ("ink", 1), ("pen", 1), ("box", 1)
MAKE = ("make", 1)
DROP, FILL = ("call", INK, "drop", ()), ("call", PEN, "fill", ())
INK_PATH, PEN_PATH = (INK,), (PEN,)


def both():
    """The resolution of a main program that needs an ink and a pen; it sees both, so the pen has no ink of its own."""
    return resolve(Project(inks(), [("ink", (1, 0)), ("pen", (1, 0))]))


def apart():
    """A linkage of the same project in which the pen has an ink of its own."""
    project = both().project()
    return Linkage(project, separate_rows(project))


def one_package(*functions):
    """The resolution of a main program that needs one package with these functions."""
    library = Library()
    library.declare("a")
    library.publish("a", (0, 0), [], functions)
    return resolve(Project(library, [("a", (0, 0))]))


A = ("a", 0)
A_PATH = (A,)


def told(linkage, expression):
    """The value and the calls of a run."""
    return (run(linkage, expression), list(calls(linkage, expression)))


class ValueTest(ErrorCase):
    def test_make_and_plus_in_the_main_program(self):
        linkage = resolve(Project(Library()))
        for expression, number in [(("make", 0), 0), (("make", -7), -7), (("plus", ("make", 3), 4), 7),
                                   (("plus", ("plus", MAKE, -5), 0), -4),
                                   (("make", 10 ** 29), 10 ** 29), (("plus", ("make", 10 ** 29), 10 ** 29), 2 * 10 ** 29)]:
            self.assertEqual((((), number), []), told(linkage, expression))

    def test_do_returns_the_second_and_if_looks_at_the_number(self):
        linkage = resolve(Project(Library()))
        two, three = ("make", 2), ("make", 3)
        for expression, number in [(("do", two, three), 3), (("if", MAKE, two, three), 2), (("if", ("make", 0), two, three), 3),
                                   (("if", ("make", -1), two, three), 2), (("if", ("plus", MAKE, -1), two, three), 3),
                                   (("do", ("if", MAKE, two, three), ("if", ("make", 0), two, three)), 3)]:
            self.assertEqual((((), number), []), told(linkage, expression))

    def test_values_of_the_copies_that_made_them(self):
        linkage = both()
        self.assertEqual(((INK_PATH, 3), [(INK_PATH, "drop", ())]), told(linkage, DROP))
        self.assertEqual(((INK_PATH, 3), [(PEN_PATH, "fill", ()), (INK_PATH, "drop", ())]), told(linkage, FILL))
        far = (PEN, INK)
        self.assertEqual(((far, 3), [(PEN_PATH, "fill", ()), (far, "drop", ())]), told(apart(), FILL))

    def test_plus_gives_a_value_of_the_copy_that_adds(self):
        linkage = apart()
        more = ("call", INK, "more", (FILL,))
        value, begun = told(linkage, more)
        self.assertEqual((INK_PATH, 4), value)
        self.assertEqual([(PEN_PATH, "fill", ()), ((PEN, INK), "drop", ()), (INK_PATH, "more", (((PEN, INK), 3),))], begun)

    def test_param_gives_the_value_as_it_came(self):
        functions = [("f", ("own", "own"), "own", ("param", 1)), ("g", (), "own", ("make", 5)),
                     ("h", ("own",), "own", ("param", 0))]
        g = ("call", A, "g", ())
        linkage = one_package(*functions)
        value, begun = told(linkage, ("call", A, "f", (("call", A, "h", (g,)), g)))
        self.assertEqual((A_PATH, 5), value)
        self.assertEqual(["g", "h", "g", "f"], [name for _, name, _ in begun])
        self.assertEqual((A_PATH, "f", ((A_PATH, 5), (A_PATH, 5))), begun[-1])

    def test_calls_without_a_label_are_of_the_same_copy(self):
        linkage = one_package(("f", ("own",), "own", ("plus", ("param", 0), 1)),
                              ("g", (), "own", ("call", None, "f", (("make", 6),))))
        self.assertEqual(((A_PATH, 7), [(A_PATH, "g", ()), (A_PATH, "f", ((A_PATH, 6),))]), told(linkage, ("call", A, "g", ())))

    def test_the_sequence_of_calls(self):
        def function(name, body):
            return (name, (), "own", body)

        def call(name):
            return ("call", None, name, ())

        f, g, h = function("f", MAKE), function("g", ("make", 0)), ("h", ("own", "own"), "own", ("do", call("g"), ("param", 0)))
        for body, names in [
            (("call", None, "h", (call("f"), call("g"))), ["f", "g", "h", "g"]),
            (("call", None, "h", (("call", None, "h", (call("g"), call("f"))), call("f"))), ["g", "f", "h", "g", "f", "h", "g"]),
            (("do", call("f"), call("g")), ["f", "g"]),
            (("if", call("f"), call("g"), call("f")), ["f", "g"]),
            (("if", call("g"), call("g"), call("f")), ["g", "f"]),
            (("if", ("plus", call("g"), 2), MAKE, call("f")), ["g"]),
            (("plus", ("do", call("g"), call("f")), 1), ["g", "f"]),
            (("do", ("call", None, "h", (call("f"), MAKE)), call("f")), ["f", "h", "g", "f"]),
        ]:
            linkage = one_package(f, g, h, function("i", body))
            self.assertEqual(["i"] + names, [name for _, name, _ in calls(linkage, ("call", A, "i", ()))])

    def test_the_function_is_that_of_the_release_of_the_copy(self):
        library = Library()
        library.declare("a")
        library.publish("a", (0, 0), [], [("f", (), "own", ("make", 1))])
        calling = ("f", (), "own", ("plus", ("call", None, "new", ()), 1))
        library.publish("a", (0, 1), [], [("new", (), "own", ("make", 8)), calling])
        library.publish("a", (0, 2), [], [("f", (), "own", ("make", 3)), ("new", (), "own", ("make", 4))])
        project = Project(library, [("a", (0, 0))])
        f = ("call", A, "f", ())
        self.assertEqual(((A_PATH, 1), [(A_PATH, "f", ())]), told(resolve(project), f))
        later = resolve(project.with_locks([(A_PATH, (0, 1))]))
        self.assertEqual(((A_PATH, 9), [(A_PATH, "f", ()), (A_PATH, "new", ())]), told(later, f))
        self.assertEqual((A_PATH, 3), run(Linkage(project, [(None, {A: 1}), (("a", (0, 2)), {})]), f))
        self.assert_fails(InvalidCode, {"value": ("call", A, "new", ())}, run, later, ("call", A, "new", ()))

    def test_a_later_release_follows_its_own_needs(self):
        library = Library.over(inks())
        library.publish("ink", (2, 0), [], [("drop", (), "own", ("make", 20))])
        library.declare("box")
        library.publish("box", (1, 0), [], [("open", (), "own", MAKE)])
        body = ("do", ("call", ("ink", 2), "drop", ()), ("make", 5))
        library.publish("box", (1, 1), [("ink", (2, 0), False)], [("open", (), "own", body)])
        project = Project(library, [("box", (1, 0))], locks=[((BOX,), (1, 1))])
        value, begun = told(resolve(project), ("call", BOX, "open", ()))
        self.assertEqual((((BOX,), 5), [((BOX,), "open", ()), ((BOX, ("ink", 2)), "drop", ())]), (value, begun))

    def test_names_of_arguments(self):
        self.assertEqual((INK_PATH, 3), run(linkage=both(), expression=DROP, limit=1))
        self.assertEqual([(INK_PATH, "drop", ())], list(calls(linkage=both(), expression=DROP, limit=1)))
        self.assertEqual([], stray_calls(linkage=both(), expression=DROP, limit=1))
        for function in [run, calls, stray_calls]:
            with self.assertRaises(TypeError):
                function(both(), DROP, 1)


class StrayTest(ErrorCase):
    MORE = ("call", INK, "more", (FILL,))

    def test_the_same_code_with_shared_and_separate_copies(self):
        self.assertEqual([], stray_calls(both(), self.MORE))
        self.assertEqual([(INK_PATH, "more", (((PEN, INK), 3),))], stray_calls(apart(), self.MORE))
        twice = ("do", self.MORE, ("do", DROP, self.MORE))
        self.assertEqual([(INK_PATH, "more", (((PEN, INK), 3),))] * 2, stray_calls(apart(), twice))

    def test_each_parameter_counts(self):
        library = Library.over(inks())
        library.publish("ink", (2, 0), [], [("drop", (), "own", MAKE), ("mix", ("own", "own"), "own", MAKE)])
        library.publish("pen", (2, 0), [("ink", (2, 0), True)], [("fill", (), ("ink", 2), ("call", ("ink", 2), "drop", ()))])
        project = Project(library, [("ink", (2, 0)), ("pen", (2, 0))])
        linkage = Linkage(project, separate_rows(project))
        drop, fill = ("call", ("ink", 2), "drop", ()), ("call", ("pen", 2), "fill", ())
        for arguments, count in [((drop, drop), 0), ((fill, drop), 1), ((drop, fill), 1), ((fill, fill), 1)]:
            self.assertEqual(count, len(stray_calls(linkage, ("call", ("ink", 2), "mix", arguments))))

    def test_a_label_means_the_copies_that_the_called_copy_sees(self):
        library = Library.over(inks())
        library.publish("ink", (2, 0), [], [("drop", (), "own", MAKE)])
        take, fill = ("take", (("ink", 2),), "own", MAKE), ("fill", (), ("ink", 2), ("call", ("ink", 2), "drop", ()))
        library.publish("pen", (2, 0), [("ink", (2, 0), True)], [take, fill])
        project = Project(library, [("ink", (2, 0)), ("pen", (2, 0))])
        pen = ("pen", 2)
        strange = ("call", pen, "take", (("call", ("ink", 2), "drop", ()),))
        own = ("call", pen, "take", (("call", pen, "fill", ()),))
        far = Linkage(project, separate_rows(project))
        self.assertEqual([[((pen,), "take", (((("ink", 2),), 1),))], []], [stray_calls(far, strange), stray_calls(far, own)])
        self.assertEqual([[], []], [stray_calls(resolve(project), strange), stray_calls(resolve(project), own)])

    def test_two_copies_that_are_seen_under_a_label_are_both_meant(self):
        # The box sees two inks, its own and that of its pen; values of both may be handed to it as inks.
        library = inks()
        library.declare("box")
        functions = [("take", (INK,), "own", MAKE), ("own", (), INK, DROP), ("far", (), INK, FILL)]
        library.publish("box", (1, 0), [("ink", (1, 0), True), ("pen", (1, 0), True)], functions)
        project = Project(library, [("box", (1, 0)), ("ink", (1, 0))])
        linkage = Linkage(project, separate_rows(project))
        for name, argument, strays in [("own", ("call", BOX, "own", ()), 0), ("far", ("call", BOX, "far", ()), 0),
                                       ("main", DROP, 1)]:
            self.assertEqual(strays, len(stray_calls(linkage, ("call", BOX, "take", (argument,)))), name)

    def test_no_parameters_no_strays(self):
        self.assertEqual([], stray_calls(apart(), ("do", FILL, DROP)))
        self.assertEqual([], stray_calls(apart(), MAKE, limit=0))

    def test_drawn_linkages(self):
        chance = random.Random(61)
        counts = {"strays": 0, "solutions": 0, "calls": 0}
        for _ in range(120):
            library = drawn_library(chance)
            needs = drawn_needs(chance, library)
            project = Project(library, needs, locks=drawn_locks(chance, library, needs))
            for linkage in all_linkages(project) or [Linkage(project, separate_rows(project))]:
                expression = drawn_main_code(chance, project)
                try:
                    right = run_by_the_words(linkage, expression, 300)
                except Enough:
                    continue
                self.assertEqual(right, told(linkage, expression))
                strays = [call for call in right[1] if is_stray_by_the_words(linkage, call)]
                self.assertEqual(strays, stray_calls(linkage, expression))
                counts["strays"] += len(strays)
                counts["calls"] += len(right[1])
                counts["solutions"] += linkage.is_solution and len(right[1]) > 0
        self.assertGreater(counts["strays"], 10)
        self.assertGreater(counts["calls"], 500)
        self.assertGreater(counts["solutions"], 50)

    def test_safe(self):
        chance = random.Random(62)
        some = 0
        for _ in range(100):
            library = drawn_library(chance, names="abcdef", releases=16, sole=0.1, shown=0.8)
            project = Project(library, drawn_needs(chance, library))
            for linkage in [each for each in all_linkages(project, 60) or [] if is_solution_by_the_words(each)]:
                for expression in [drawn_main_code(chance, project) for _ in range(3)]:
                    try:
                        self.assertEqual([], stray_calls(linkage, expression))
                        some += len(list(calls(linkage, expression)))
                    except TooManySteps:
                        continue
        self.assertGreater(some, 200)


class LimitTest(ErrorCase):
    THREE = ("do", FILL, DROP)

    def test_as_many_steps_as_the_limit_and_one_more(self):
        linkage = both()
        for limit in (3, 4, 1000, 10 ** 29):
            self.assertEqual((INK_PATH, 3), run(linkage, self.THREE, limit=limit))
            self.assertEqual(3, len(list(calls(linkage, self.THREE, limit=limit))))
            self.assertEqual([], stray_calls(linkage, self.THREE, limit=limit))
        for limit in (0, 1, 2):
            for function in [run, stray_calls]:
                self.assert_fails(TooManySteps, {"limit": limit}, function, linkage, self.THREE, limit=limit)
            begun = calls(linkage, self.THREE, limit=limit)
            self.assertEqual(list(calls(linkage, self.THREE))[:limit], list(itertools.islice(begun, limit)))
            self.assert_fails(TooManySteps, {"limit": limit}, next, begun)
            self.assertEqual([], list(begun))

    def test_no_step(self):
        for expression in [MAKE, ("do", MAKE, ("plus", ("make", 0), 1)), ("if", MAKE, MAKE, MAKE)]:
            self.assertEqual([((), 1), []], [run(both(), expression, limit=0), list(calls(both(), expression, limit=0))])
        self.assert_fails(TooManySteps, {"limit": 0}, run, both(), DROP, limit=0)

    def test_the_limit_of_1000(self):
        linkage = resolve(Project(with_counters(Library()), [("n", (0, 0))]))
        one, most = ("call", ("n", 0), "one", ()), ("call", ("n", 0), "most", ())
        exactly, over = row_of([most, one, one, one]), row_of([most, one, one, one, one])
        self.assertEqual([((("n", 0),), 1), []], [run(linkage, exactly), stray_calls(linkage, exactly)])
        self.assertEqual(1000, len(list(calls(linkage, exactly))))
        for function in [run, stray_calls]:
            self.assert_fails(TooManySteps, {"limit": 1000}, function, linkage, over)
            function(linkage, over, limit=1001)
        begun = calls(linkage, over)
        self.assertEqual(1000, len(list(itertools.islice(begun, 1000))))
        self.assert_fails(TooManySteps, {"limit": 1000}, next, begun)

    def test_code_with_more_calls_than_can_ever_be_made(self):
        linkage = endless()
        expression = ("call", ("j", 0), "i", ())
        for limit in (1000, 0, 37):
            self.assert_fails(TooManySteps, {"limit": limit}, run, linkage, expression, limit=limit)
            self.assert_fails(TooManySteps, {"limit": limit}, stray_calls, linkage, expression, limit=limit)
        begun = calls(linkage, expression, limit=10 ** 29)
        first = list(itertools.islice(begun, 12))
        self.assertEqual([("j", 0), "i"], [first[0][0][-1], first[0][1]])
        self.assertEqual(100, len(list(itertools.islice(begun, 100))))

    def test_ten_packages_whose_calls_begin_within_each_other(self):
        library = Library()
        for at, package in enumerate("abcdefghij"):
            library.declare(package)
            needs, body = [], MAKE
            if at > 0:
                label = ("abcdefghij"[at - 1], 0)
                needs, body = [(label[0], (0, 0), True)], ("do", ("call", label, "f", ()), ("make", at))
            library.publish(package, (0, 0), needs, [("f", (), "own", body)])
        linkage = resolve(Project(library, [("j", (0, 0))]))
        value, begun = told(linkage, ("call", ("j", 0), "f", ()))
        path = tuple([(package, 0) for package in "jihgfedcba"])
        self.assertEqual(((path[:1], 9), [(path[:k], "f", ()) for k in range(1, 11)]), (value, begun))


def endless():
    """Ten packages with four functions each, each of which calls the one before fifteen times."""
    library = Library()
    last = None
    for at, package in enumerate("abcdefghij"):
        library.declare(package)
        functions = []
        for name in "fghi":
            body = MAKE
            if last is not None:
                call = ("call", last[0] if name == "f" else None, last[1], ())
                pair = ("do", call, call)
                body = ("do", ("do", pair, ("do", pair, pair)), ("do", pair, MAKE))
            functions.append((name, (), "own", body))
            last = ((package, 0), name)
        needs = [("abcdefghij"[at - 1], (0, 0), False)] if at > 0 else []
        library.publish(package, (0, 0), needs, functions)
    return resolve(Project(library, [("j", (0, 0))]))


class ErrorsTest(ErrorCase):
    WITHOUT_KIND = [
        ("param", 0), ("call", None, "drop", ()), ("plus", DROP, 1), ("call", INK, "fill", ()), ("call", PEN, "drop", ()),
        ("call", ("ink", 0), "drop", ()), ("call", BOX, "open", ()), ("call", INK, "drop", (MAKE,)), ("call", INK, "more", ()),
        ("call", INK, "more", (MAKE,)), ("if", DROP, MAKE, MAKE), ("if", MAKE, MAKE, DROP), ("do", ("param", 0), MAKE),
    ]

    def test_what_is_no_code_with_a_kind(self):
        linkage = both()
        for value in self.WITHOUT_KIND + NO_EXPRESSIONS + odd_values() + [nested(6), wide(31)]:
            for limit in [1000, 0, -1, None]:
                self.assert_fails(InvalidCode, {"value": value}, run, linkage, value, limit=limit)
                self.assert_fails(InvalidCode, {"value": value}, stray_calls, linkage, value, limit=limit)
                self.assert_fails(InvalidCode, {"value": value}, next, calls(linkage, value, limit=limit))

    def test_a_linkage_whose_registry_is_no_library(self):
        for linkage in [resolve(Project(inks().registry(), [("ink", (1, 0))])), resolve(Project(Library().registry()))]:
            for value in [MAKE, DROP, None, ("do", MAKE, MAKE)]:
                for limit in [1000, None]:
                    self.assert_fails(InvalidCode, {"value": value}, run, linkage, value, limit=limit)
                    self.assert_fails(InvalidCode, {"value": value}, stray_calls, linkage, value, limit=limit)
                    self.assert_fails(InvalidCode, {"value": value}, next, calls(linkage, value, limit=limit))

    def test_limits_that_are_no_counts(self):
        linkage = both()
        for limit in [-1, -(10 ** 29), True, False, None, "1", (), [], {}, b"1", NoComparing(), (1,)]:
            for expression in [DROP, MAKE, StrayTest.MORE]:
                self.assert_fails(InvalidCount, {"value": limit}, run, linkage, expression, limit=limit)
                self.assert_fails(InvalidCount, {"value": limit}, stray_calls, linkage, expression, limit=limit)
                self.assert_fails(InvalidCount, {"value": limit}, next, calls(linkage, expression, limit=limit))

    def test_two_iterations_by_turns_and_left_half_way(self):
        linkage = both()
        expression = ("do", FILL, DROP)
        right = list(calls(linkage, expression))
        one, other = calls(linkage, expression), calls(linkage, expression)
        self.assertIs(one, iter(one))
        self.assertEqual([right[0], right[0], right[1]], [next(one), next(other), next(one)])
        self.assertEqual(right, list(calls(linkage, expression)))
        self.assertEqual([right[1:], right[2:]], [list(other), list(one)])
        next(calls(linkage, expression))

    def test_repeated_runs_and_changed_results(self):
        linkage = apart()
        strays = stray_calls(linkage, StrayTest.MORE)
        strays.clear()
        self.assertEqual(1, len(stray_calls(linkage, StrayTest.MORE)))
        self.assertEqual(told(linkage, StrayTest.MORE), told(linkage, StrayTest.MORE))


if __name__ == "__main__":
    unittest.main()
