import random
import unittest

from leastlinks.errors import InvalidFlag, InvalidFunctions, InvalidName, InvalidNeeds, InvalidVersion, LostFunction, NameTaken
from leastlinks.errors import NotEarlier, NotGrowing, NotRising, TooMany, UnknownFunction, UnknownPackage, UnknownRelease
from leastlinks.library import Library
from leastlinks.projects import Project
from leastlinks.registry import Registry
from leastlinks.resolving import resolve
from tests.coding import drawn_library
from tests.drawing import drawn_needs, drawn_registry
from tests.support import EqualToAll, ErrorCase, NoComparing, everything, odd_values, without_kind
from tests.test_code import NO_EXPRESSIONS, nested, wide

class Pair(tuple):
    """A kind of tuple that is told from others by its class alone."""


INK, PEN = ("ink", 1), ("pen", 1)
MAKE = ("make", 1)


def plain(name, result="own"):
    """A function without parameters."""
    return (name, (), result, MAKE)


DROP = ("drop", (), "own", ("make", 3))
MORE = ("more", ("own",), "own", ("plus", ("param", 0), 1))
FILL = ("fill", (), INK, ("call", INK, "drop", ()))


def pens():
    """A library with an ink, and with a pen that shows it."""
    library = Library()
    library.declare("ink")
    library.declare("pen")
    library.publish("ink", (1, 0), [], [DROP, MORE])
    library.publish("pen", (1, 0), [("ink", (1, 0), True)], [FILL])
    return library


class TakenOverTest(ErrorCase):
    def test_a_new_library(self):
        library = Library()
        self.assertIsInstance(library, Registry)
        self.assertEqual([[], 0, "Library([], 0)"], [library.packages(), len(library), repr(library)])
        self.assertEqual([10, 40, 6], [library.MOST_PACKAGES, library.MOST_RELEASES, library.MOST_NEEDS])
        self.assertEqual(4, library.MOST_FUNCTIONS)

    def test_what_a_registry_answers(self):
        library = pens()
        self.assertIsNone(library.declare("lid", sole=True))
        self.assertEqual([["ink", "pen", "lid"], [False, False, True]],
                         [library.packages(), [library.is_sole(each) for each in library.packages()]])
        self.assertEqual([[(1, 0)], []], [library.versions("pen"), library.versions("lid")])
        self.assertEqual([True, False], [library.has_package("pen"), library.has_package("cap")])
        self.assertEqual([True, False], [library.has_label(INK), library.has_label(("lid", 0))])
        self.assertEqual([True, False], [library.has_release("ink", (1, 0)), library.has_release("ink", (1, 1))])
        self.assertEqual([[], [("ink", (1, 0), True)]], [library.needs("ink", (1, 0)), library.needs("pen", (1, 0))])
        self.assertEqual([("ink", (1, 0)), ("pen", (1, 0))], list(library.releases()))
        self.assertEqual([2, "Library(['ink', 'pen', 'lid'], 2)"], [len(library), repr(library)])

    def test_errors_of_a_registry(self):
        library = pens()
        for error, told, call in [
            (InvalidName, {"value": "A"}, lambda: library.declare("A")),
            (InvalidFlag, {"value": 1}, lambda: library.declare("ink", sole=1)),
            (NameTaken, {"value": "ink"}, lambda: library.declare("ink")),
            (UnknownPackage, {"value": "cap"}, lambda: library.versions("cap")),
            (UnknownPackage, {"value": None}, lambda: library.is_sole(None)),
            (UnknownRelease, {"package": "ink", "version": (1, 1)}, lambda: library.needs("ink", (1, 1))),
            (UnknownRelease, {"package": "ink", "version": (1, 1)}, lambda: library.functions("ink", (1, 1))),
            (UnknownRelease, {"package": [], "version": None}, lambda: library.functions([], None)),
        ]:
            self.assert_refused(library, error, told, call)
        for letter in "abcdefgh":
            library.declare(letter)
        self.assert_refused(library, TooMany, {"kind": "packages", "limit": 10}, library.declare, "i")

    def test_over_a_registry(self):
        registry = Registry.of(font=False, page=True)
        registry.publish("font", (1, 0))
        registry.publish("page", (0, 3), [("font", (1, 0), True)])
        library = Library.over(registry)
        self.assertIs(Library, library.__class__)
        self.assertEqual([list(registry.releases()), [[], []]],
                         [list(library.releases()), [library.functions(*release) for release in library.releases()]])
        self.assertEqual([True, [("font", (1, 0), True)]], [library.is_sole("page"), library.needs("page", (0, 3))])
        library.publish("font", (1, 1), (), [plain("f")])
        self.assertIs(False, registry.has_release("font", (1, 1)))
        registry.publish("font", (2, 0))
        self.assertIs(False, library.has_release("font", (2, 0)))
        self.assertEqual(Library(), Library.over(registry=Registry()))

    def test_over_a_library_leaves_its_functions_out(self):
        library = pens()
        bare = Library.over(library)
        self.assertEqual([[], []], [bare.functions(*release) for release in bare.releases()])
        self.assertEqual([False, True], [bare == library, bare.registry() == library.registry()])

    def test_the_registry_of_a_library(self):
        library = pens()
        registry = library.registry()
        self.assertIs(Registry, registry.__class__)
        self.assertEqual("package ink\nrelease ink 1.0\npackage pen\nrelease pen 1.0 ink/1.0+\n", str(registry))
        registry.publish("ink", (1, 1))
        self.assertEqual(pens(), library)
        library.publish("ink", (2, 0))
        self.assertIs(False, registry.has_release("ink", (2, 0)))

    def test_drawn_registries_both_ways(self):
        chance = random.Random(51)
        for _ in range(40):
            registry = drawn_registry(chance)
            self.assertEqual(registry, Library.over(registry).registry())
            library = drawn_library(chance)
            self.assertEqual(Library.over(library), Library.over(library.registry()))

    def test_clones(self):
        library = pens()
        clone = library.clone()
        self.assertIs(Library, clone.__class__)
        self.assertEqual(everything(library), everything(clone))
        clone.publish("ink", (1, 1), [], [MORE, DROP])
        clone.declare("cap")
        self.assertEqual(everything(pens()), everything(library))
        library.publish("ink", (2, 0), [], [plain("f")])
        self.assertIs(False, clone.has_release("ink", (2, 0)))

    def test_equality(self):
        library = pens()
        self.assertTrue(library == pens() and library == library.clone() and not library != pens())
        others = [Library(), Library.over(library), library.registry(), None, "Library", 0, [], EqualToAll]
        changed = [
            ("ink", (1, 1), [], [DROP, MORE]), ("pen", (1, 1), [("ink", (1, 0), True)], [FILL]), ("ink", (2, 0), [], []),
        ]
        for change in changed:
            other = pens()
            other.publish(*change)
            others.append(other)
        for other in others:
            self.assertEqual([False, True], [library == other, library != other])
            self.assertEqual([False, True], [other == library, other != library])

    def test_equality_of_functions(self):
        def with_functions(*functions):
            library = Library()
            library.declare("a")
            library.publish("a", (0, 0), (), functions)
            return library

        f, g = plain("f"), plain("g")
        self.assertEqual(with_functions(f, g), with_functions(f, g))
        for other in [(g, f), (f,), (), (f, plain("h")), (f, ("g", (), "own", ("make", 2))), (f, ("g", ("own",), "own", MAKE))]:
            self.assertNotEqual(with_functions(f, g), with_functions(*other))
        # Where nothing else differs, a registry is still another value than a library.
        bare = with_functions()
        self.assertEqual([False, False], [bare == bare.registry(), bare.registry() == bare])

    def test_equality_of_what_a_registry_has(self):
        def with_need(names, version, is_shown, sole=False):
            library = Library()
            for name in names:
                library.declare(name, sole=sole)
            library.publish("a", (0, 0), (), [plain("f")])
            library.publish("a", (0, 1), (), [plain("f")])
            library.publish("b", (0, 0), [("a", version, is_shown)], [plain("g")])
            return library

        library = with_need("abc", (0, 0), True)
        self.assertEqual(library, with_need("abc", (0, 0), True))
        for other in [with_need("ab", (0, 0), True), with_need("acb", (0, 0), True), with_need("abc", (0, 1), True),
                      with_need("abc", (0, 0), False), with_need("abc", (0, 0), True, sole=True)]:
            self.assertEqual([False, False], [library == other, other == library])

    def test_the_sequence_of_publishing_is_not_compared(self):
        one, other = Library(), Library()
        for library, versions in [(one, [(0, 0), (1, 0)]), (other, [(1, 0), (0, 0)])]:
            library.declare("a")
            for version in versions:
                library.publish("a", version, (), [plain("f")])
        self.assertEqual(one, other)


class ProjectsOfLibrariesTest(ErrorCase):
    def test_a_project_keeps_its_library(self):
        library = pens()
        project = Project(library, [("pen", (1, 0))])
        library.publish("ink", (1, 1), [], [DROP, MORE])
        for each in [project, project.with_need("ink", (1, 0)), project.without_need(PEN),
                     project.with_locks([((PEN,), (1, 0))])]:
            self.assertIs(Library, each.registry().__class__)
            self.assertEqual(pens(), each.registry())
        kept = project.registry()
        kept.declare("cap")
        self.assertEqual(pens(), project.registry())
        self.assertIs(Library, resolve(project).project().registry().__class__)

    def test_projects_of_a_library_and_of_its_registry(self):
        library = pens()
        one, other = Project(library, [("pen", (1, 0))]), Project(library.registry(), [("pen", (1, 0))])
        self.assertEqual([False, False, False], [one == other, other == one, one == Project(Library.over(library), one.needs())])
        self.assertEqual(resolve(one), resolve(other))
        self.assertIs(Registry, other.with_need("ink", (1, 0)).registry().__class__)

    def test_drawn_projects_resolve_alike(self):
        chance = random.Random(52)
        for _ in range(60):
            library = drawn_library(chance, sole=0)
            needs = drawn_needs(chance, library)
            self.assertEqual(resolve(Project(library.registry(), needs)), resolve(Project(library, needs)))


class PublishTest(ErrorCase):
    def assert_problem(self, library, problem, position, *arguments):
        self.assert_refused(library, InvalidFunctions, {"problem": problem, "position": position}, library.publish, *arguments)

    def test_functions_as_lists_and_tuples_and_left_out(self):
        library = pens()
        self.assertIsNone(library.publish("ink", (2, 0)))
        self.assertIsNone(library.publish("ink", (3, 0), [], ()))
        self.assertIsNone(library.publish("ink", (4, 0), (), (DROP, MORE)))
        self.assertIsNone(library.publish(package="ink", version=(5, 0), needs=(), functions=[MORE]))
        self.assertIsNone(library.publish("ink", (6, 0), functions=[DROP]))
        self.assertEqual([[], [], [DROP, MORE], [MORE], [DROP]], [library.functions("ink", (k, 0)) for k in range(2, 7)])

    def test_functions_are_copied_and_returned_anew(self):
        library = pens()
        functions = [DROP]
        library.publish("ink", (2, 0), [], functions)
        functions.append(MORE)
        found = library.functions("ink", (2, 0))
        found.clear()
        self.assertEqual([DROP], library.functions(package="ink", version=(2, 0)))

    def test_no_tuples_of_another_kind_are_kept(self):
        library = pens()
        needs = [("ink", Pair((1, 0)), True)]
        fill = ("fill", Pair((Pair(INK),)), Pair(INK), Pair(("call", Pair(INK), "drop", Pair(()))))
        library.publish("pen", Pair((2, 0)), needs, (Pair(fill),))
        self.assertEqual([fill], library.functions("pen", (2, 0)))
        self.assert_plain([library.functions("pen", (2, 0)), library.needs("pen", (2, 0)), list(library.releases())])

    def assert_plain(self, value):
        """The value consists of tuples, lists, strings, integers and bools, of no other kind."""
        self.assertIn(value.__class__, (tuple, list, str, int, bool))
        for part in value if isinstance(value, (tuple, list)) else ():
            self.assert_plain(part)

    def test_no_functions_four_and_five(self):
        for count in range(5):
            library = pens()
            library.publish("ink", (2, 0), [], [plain(name) for name in "abcd"[:count]])
            self.assertEqual(count, len(library.functions("ink", (2, 0))))
        five = [plain(name) for name in "abcde"]
        for wrong in [five, tuple(five), [None] * 5, [plain("a")] * 5, five[:4] + [()]]:
            self.assert_refused(library, TooMany, {"kind": "functions", "limit": 4}, library.publish, "ink", (3, 0), [], wrong)

    def test_values_that_are_no_functions_at_all(self):
        library = pens()
        for value in [each for each in odd_values() if not isinstance(each, (list, tuple))] + [DROP[0], {"a": DROP}]:
            self.assert_problem(library, "functions", None, "ink", (1, 1), [], value)

    def test_the_form(self):
        library = pens()
        wrong = without_kind(odd_values(), tuple) + [list(DROP), DROP[:3], DROP + (1,), ("Drop",) + DROP[1:]]
        wrong += [("f", ["own"], "own", MAKE), ("f", (), None, MAKE), ("f", ("own",) * 5, "own", MAKE),
                  ("f", ("own", ("ink", True)), "own", MAKE)]
        wrong += [("f", (), "own", body) for body in NO_EXPRESSIONS + [nested(6), wide(31), ("make", True)]]
        for value in wrong + [NoComparing(), EqualToAll()]:
            for position in range(3):
                functions = [DROP, MORE, plain("g")]
                functions[position] = value
                self.assert_problem(library, "form", position, "ink", (2, 0), [], functions)
        library.publish("ink", (2, 0), [], [("f", (), "own", nested(5)), ("g", (), "own", ("do", wide(1), MAKE))])

    def test_the_name_of_an_earlier_one(self):
        library = pens()
        for functions, position in [([DROP, DROP], 1), ([DROP, MORE, ("drop", ("own",), "own", MAKE)], 2),
                                    ([DROP, MORE, MORE, None], 2),
                                    ([DROP, ("drop", (PEN,), "own", MAKE)], 1)]:
            self.assert_problem(library, "name", position, "ink", (2, 0), [], functions)

    def test_the_kinds(self):
        library = pens()
        library.publish("ink", (2, 0))
        library.declare("box")
        shown = [("pen", (1, 0), True)]
        for needs, kinds in [((), []), (shown, [INK, PEN]), ([("pen", (1, 0), False)], []),
                             ([("pen", (1, 0), False), ("ink", (1, 0), True)], [INK]), ([("ink", (2, 0), True)], [("ink", 2)]),
                             ([("ink", (2, 0), True), ("pen", (1, 0), True)], [INK, ("ink", 2), PEN])]:
            for kind in [INK, ("ink", 2), ("ink", 0), PEN, ("box", 0), ("cap", 0)]:
                given, returned = ("f", ("own", kind), "own", MAKE), ("f", (kind,), kind, ("param", 0))
                for function in [given, returned]:
                    if kind in kinds:
                        other = library.clone()
                        self.assertIsNone(other.publish("box", (0, 0), needs, [function]))
                    else:
                        self.assert_problem(library, "kinds", 0, "box", (0, 0), needs, [function])
                        self.assert_problem(library, "kinds", 1, "box", (0, 0), needs, [plain("g"), function, None])

    def test_the_result_alone(self):
        library = pens()
        body = ("call", INK, "drop", ())
        self.assert_problem(library, "kinds", 0, "pen", (2, 0), [("ink", (1, 0), False)], [("f", (), INK, body)])
        self.assertIsNone(library.publish("pen", (2, 0), [("ink", (1, 0), False)], [("f", (), "own", ("do", body, MAKE))]))

    def test_the_body(self):
        library = pens()
        needs = [("ink", (1, 0), True)]
        call = ("call", INK, "drop", ())
        for result, body in [(INK, MAKE), ("own", call), ("own", ("param", 0)), (INK, ("plus", call, 1)),
                             ("own", ("call", INK, "more", (MAKE,))),
                             ("own", ("call", None, "g", ())), ("own", ("call", None, "f", ())), (INK, ("call", INK, "fill", ())),
                             (INK, ("call", ("ink", 0), "drop", ())), (INK, ("call", PEN, "fill", ())),
                             (INK, ("call", INK, "drop", (MAKE,)))]:
            self.assert_problem(library, "body", 0, "pen", (2, 0), needs, [("f", (), result, body)])
            self.assert_problem(library, "body", 0, "pen", (2, 0), needs, [("f", (), result, body), None])
            self.assert_problem(library, "body", 1, "pen", (2, 0), needs, [plain("e"), ("f", (), result, body)])

    def test_calls_of_functions_of_the_same_release(self):
        def calling(name, other):
            return (name, (), "own", ("call", None, other, ()))

        library = pens()
        four = [plain("f"), calling("g", "f"), calling("h", "g"), calling("i", "f")]
        self.assertIsNone(library.publish("ink", (2, 0), [], four))
        for functions, position in [([calling("g", "f"), plain("f")], 0), ([plain("f"), calling("g", "g")], 1),
                                    ([plain("f"), calling("g", "h"), plain("h")], 1), ([calling("drop", "drop")], 0)]:
            self.assert_problem(library, "body", position, "ink", (3, 0), [], functions)
        # A function of the release before is none of this release.
        self.assert_problem(library, "body", 0, "ink", (2, 1), [], [calling("g", "f"), plain("f")])

    def test_each_problem_before_those_behind_it(self):
        library = pens()
        shapes = {
            "form": lambda at: ("drop", (PEN,), "own"), "name": lambda at: ("drop", (PEN,), "own", ("param", 9)),
            "kinds": lambda at: ("abcd"[at], (PEN,), "own", ("param", 9)),
            "body": lambda at: ("abcd"[at], (), "own", ("param", 9)),
        }
        for problem, shape in shapes.items():
            self.assert_problem(library, problem, 1, "ink", (1, 1), [], [DROP, shape(1)])
            for other in shapes.values():
                self.assert_problem(library, problem, 1, "ink", (1, 1), [], [DROP, shape(1), other(2)])
            self.assert_problem(library, problem, 2, "ink", (1, 1), [], [DROP, plain("x"), shape(2), None])

    def test_functions_that_must_be_kept(self):
        library = pens()
        for functions, lost in [([], "drop"), ([DROP], "more"), ([MORE], "drop"), ([plain("f")], "drop"),
                                ([MORE, plain("f")], "drop"),
                                ([("drop", ("own",), "own", MAKE), MORE], "drop"), ([DROP, ("more", (), "own", MAKE)], "more"),
                                ([DROP, ("more", ("own", "own"), "own", MAKE)], "more")]:
            self.assert_refused(library, LostFunction, {"name": lost}, library.publish, "ink", (1, 1), [], functions)
        self.assert_refused(library, LostFunction, {"name": "drop"}, library.publish, "ink", (1, 1))
        for functions in [[DROP, MORE], [MORE, DROP], [plain("f"), MORE, plain("g"), DROP],
                          [("drop", (), "own", ("make", 0)), ("more", ("own",), "own", ("param", 0))]]:
            other = library.clone()
            self.assertIsNone(other.publish("ink", (1, 1), (), functions))
            self.assertEqual(functions, other.functions("ink", (1, 1)))
        self.assertIsNone(library.publish("ink", (0, 9)))
        self.assertIsNone(library.publish("ink", (2, 0)))

    def test_the_result_must_be_kept(self):
        library = pens()
        needs = [("ink", (1, 0), True)]
        lost = {"name": "fill"}
        for function in [plain("fill"), ("fill", (INK,), INK, ("param", 0)), ("fill", ("own",), INK, ("call", INK, "drop", ()))]:
            self.assert_refused(library, LostFunction, lost, library.publish, "pen", (1, 1), needs, [function])
        self.assertIsNone(library.publish("pen", (1, 1), needs, [("fill", (), INK, ("do", MAKE, FILL[3]))]))

    def test_the_release_published_before_is_the_one_with_the_step_below(self):
        library = pens()
        library.publish("ink", (1, 4), [], [DROP, MORE, plain("f")])
        library.publish("ink", (0, 0), [], [plain("g")])
        self.assert_refused(library, LostFunction, {"name": "f"}, library.publish, "ink", (1, 5), [], [DROP, MORE])
        self.assertIsNone(library.publish("ink", (1, 5), [], [plain("f"), DROP, MORE]))
        self.assert_refused(library, LostFunction, {"name": "g"}, library.publish, "ink", (0, 1), [], [DROP, MORE])

    def test_an_invalid_function_before_a_lost_one(self):
        library = pens()
        self.assert_problem(library, "functions", None, "ink", (1, 1), [], None)
        self.assert_refused(library, TooMany, {"kind": "functions", "limit": 4}, library.publish, "ink", (1, 1), [], [None] * 5)
        for function, problem in [(None, "form"), (("f", (PEN,), "own", MAKE), "kinds"),
                                  (("f", (), "own", ("param", 0)), "body")]:
            self.assert_problem(library, problem, 0, "ink", (1, 1), [], [function])

    def test_the_errors_of_a_registry_come_first(self):
        library = pens()
        for functions in [None, [None], [None] * 5, [], [DROP]]:
            for error, told, arguments in [
                (UnknownPackage, {"value": "cap"}, ("cap", None, None)),
                (InvalidVersion, {"value": (1, True)}, ("ink", (1, True), None)),
                (InvalidNeeds, {"position": None}, ("ink", (1, 0), None)),
                (InvalidNeeds, {"position": 0}, ("ink", (1, 0), [None])),
                (TooMany, {"kind": "needs", "limit": 6}, ("pen", (1, 0), [("ink", (k, 0), True) for k in range(7)])),
                (NotEarlier, {"user": "ink", "used": "pen"}, ("ink", (1, 0), [("pen", (1, 0), True)])),
                (UnknownRelease, {"package": "ink", "version": (1, 7)}, ("pen", (1, 0), [("ink", (1, 7), True)])),
                (NotRising, {"package": "ink", "version": (1, 0)}, ("ink", (1, 0), ())),
                (NotGrowing, {"label": INK}, ("pen", (1, 1), ())),
            ]:
                self.assert_refused(library, error, told, library.publish, *arguments, functions)

    def test_the_forty_first_release_before_its_functions(self):
        library = pens()
        for step in range(1, 39):
            library.publish("ink", (1, step), [], [DROP, MORE])
        self.assertEqual(40, len(library))
        for functions in [None, [None], [None] * 5, [], [DROP, MORE]]:
            self.assert_refused(library, TooMany, {"kind": "releases", "limit": 40}, library.publish, "ink", (1, 39), [],
                                functions)
            self.assert_refused(library, TooMany, {"kind": "releases", "limit": 40}, library.publish, "ink", (2, 0), [],
                                functions)


class SignatureTest(ErrorCase):
    def test_signatures(self):
        library = pens()
        self.assertEqual([((), "own"), (("own",), "own"), ((), INK)],
                         [library.signature("ink", (1, 0), "drop"), library.signature("ink", (1, 0), "more"),
                          library.signature("pen", (1, 0), "fill")])
        self.assertEqual(((), INK), library.signature(package="pen", version=(1, 0), name="fill"))

    def test_unknown_releases_and_functions(self):
        library = pens()
        for name in ["fill", "own", "", "Drop", "ink"] + odd_values():
            self.assert_fails(UnknownFunction, {"value": name}, library.signature, "ink", (1, 0), name)
            self.assert_fails(UnknownRelease, {"package": "ink", "version": (1, 1)}, library.signature, "ink", (1, 1), name)
        for value in odd_values():
            self.assert_fails(UnknownRelease, {"package": value, "version": (1, 0)}, library.signature, value, (1, 0), "drop")
            self.assert_fails(UnknownRelease, {"package": "ink", "version": value}, library.signature, "ink", value, "drop")


if __name__ == "__main__":
    unittest.main()
