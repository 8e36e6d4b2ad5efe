import random
import unittest

from leastlinks.errors import InvalidCode, InvalidFunctions, UnknownRelease
from leastlinks.library import Library, kind_in, main_kind
from leastlinks.projects import Project
from tests.coding import drawn_expression, drawn_library, kind_by_the_words, shown_kinds, signatures
from tests.drawing import drawn_needs
from tests.support import ErrorCase, everything, odd_values
from tests.test_code import NO_EXPRESSIONS, nested, wide

INK, PEN, BOX = ("ink", 1), ("pen", 1), ("box", 0)
MAKE = ("make", 1)
DROP, FILL = ("call", INK, "drop", ()), ("call", PEN, "fill", ())


def boxes():
    """Inks, pens that show them, and boxes that show pens and hide inks; each with functions of several kinds."""
    library = Library()
    for package in ["ink", "pen", "box"]:
        library.declare(package)
    library.publish("ink", (1, 0), [], [("drop", (), "own", MAKE), ("mix", ("own", "own"), "own", ("param", 1))])
    library.publish("ink", (1, 1), [], [("drop", (), "own", MAKE), ("mix", ("own", "own"), "own", ("param", 1)),
                                        ("late", (), "own", MAKE)])
    fill = ("fill", (), INK, DROP)
    pour = ("pour", ("own", INK), "own", ("param", 0))
    library.publish("pen", (1, 0), [("ink", (1, 0), True)], [fill, pour, ("take", (INK,), INK, ("param", 0))])
    needs = [("pen", (1, 0), True), ("ink", (1, 0), False)]
    library.publish("box", (0, 0), needs)
    return library


class KindInTest(ErrorCase):
    def assert_kinds(self, rows, package="box", version=(0, 0), **named):
        library = boxes()
        for expression, kind in rows:
            self.assertEqual(kind, kind_in(library, package, version, expression, **named), expression)

    def test_make_and_param(self):
        self.assert_kinds([(("make", 0), "own"), (("make", -5), "own")])
        kinds = ("own", INK, PEN, ("none", 7), "own")
        self.assert_kinds([(("param", at), kind) for at,
                           kind in enumerate(kinds)] + [(("param", 5), None), (("param", 10 ** 20), None)], parameters=kinds)
        self.assert_kinds([(("param", 0), None)])
        self.assert_kinds([(("param", 0), None)], parameters=())

    def test_plus(self):
        rows = [(("plus", MAKE, 2), "own"), (("plus", ("param", 0), 2), "own"), (("plus", ("param", 1), 2), None),
                (("plus", ("param", 2), 2), None)]
        self.assert_kinds(rows + [(("plus", ("plus", MAKE, 1), 0), "own"), (("plus", DROP, 0), None)], parameters=("own", INK))

    def test_calls_of_needs(self):
        pen = ("param", 0)
        pour = ("call", PEN, "pour", (pen, DROP))
        self.assert_kinds([
            (DROP, INK), (FILL, INK), (pour, PEN), (("call", PEN, "pour", (pour, FILL)), PEN),
            (("call", PEN, "take", (FILL,)), INK),
            (("call", INK, "mix", (DROP, FILL)), INK),
            (("call", PEN, "pour", (MAKE, DROP)), None), (("call", PEN, "pour", (pen, MAKE)), None),
            (("call", PEN, "pour", (DROP, pen)), None),
            (("call", PEN, "pour", (pen,)), None), (("call", PEN, "pour", (pen, DROP, DROP)), None),
            (("call", PEN, "pour", ()), None),
            (("call", PEN, "fill", (pen,)), None), (("call", PEN, "drop", ()), None), (("call", INK, "fill", ()), None),
            (("call", INK, "mix", (MAKE, MAKE)), None), (("call", INK, "mix", (DROP, MAKE)), None),
        ], parameters=(PEN,))

    def test_labels_of_no_need(self):
        # The pen that this release needs shows an ink, and that is no need of the release; nor is the release itself.
        self.assert_kinds([(("call", label, "drop", ()), None) for label in [("ink", 0), ("ink", 2), BOX, ("none", 1), PEN]])
        library = boxes()
        library.publish("box", (1, 0), [("pen", (1, 0), True)])
        code = [DROP, FILL, ("call", INK, "late", ())]
        self.assertEqual([None, INK, None], [kind_in(library, "box", (1, 0), each) for each in code])

    def test_the_named_release_counts(self):
        library = boxes()
        late = ("call", INK, "late", ())
        library.publish("box", (0, 1), [("pen", (1, 0), True), ("ink", (1, 1), False)])
        self.assertEqual([None, INK], [kind_in(library, "box", version, late) for version in [(0, 0), (0, 1)]])

    def test_calls_without_a_label(self):
        mix = ("call", None, "mix", (MAKE, ("call", None, "drop", ())))
        self.assert_kinds([(("call", None, "drop", ()), "own"), (mix, "own"), (("call", None, "mix", (MAKE,)), None),
                           (("call", None, "late", ()), None),
                           (("call", INK, "drop", ()), None), (("call", None, "fill", ()), None)], "ink", (1, 0))
        self.assert_kinds([(("call", None, "fill", ()), INK), (("call", None, "pour", (MAKE, DROP)), "own"),
                           (("call", None, "take", (MAKE,)), None),
                           (("call", None, "pour", (MAKE, ("call", None, "fill", ()))), "own"),
                           (("call", None, "take", (DROP,)), INK)], "pen", (1, 0))
        self.assert_kinds([(("call", None, "late", ()), "own")], "ink", (1, 1))

    def test_do(self):
        none = ("param", 9)
        self.assert_kinds([(("do", MAKE, DROP), INK), (("do", DROP, MAKE), "own"), (("do", DROP, FILL), INK),
                           (("do", none, MAKE), None),
                           (("do", MAKE, none), None), (("do", ("do", none, MAKE), MAKE), None), (("do", none, none), None)])

    def test_if(self):
        none = ("param", 9)
        self.assert_kinds([
            (("if", MAKE, MAKE, MAKE), "own"), (("if", MAKE, DROP, FILL), INK), (("if", MAKE, ("param", 0), ("param", 0)), PEN),
            (("if", DROP, MAKE, MAKE), None), (("if", none, MAKE, MAKE), None), (("if", MAKE, MAKE, DROP), None),
            (("if", MAKE, DROP, MAKE), None),
            (("if", MAKE, none, none), None), (("if", MAKE, MAKE, none), None), (("if", MAKE, none, MAKE), None),
            (("if", MAKE, DROP, ("param", 0)), None),
        ], parameters=(PEN,))

    def test_a_part_without_a_kind_takes_it_from_all(self):
        none = ("param", 9)
        for outer in [("plus", none, 1), ("do", none, MAKE), ("do", MAKE, none), ("if", none, MAKE, MAKE),
                      ("call", INK, "mix", (DROP, none)),
                      ("call", INK, "mix", (none, DROP)), ("plus", ("do", ("plus", none, 1), MAKE), 1)]:
            self.assert_kinds([(outer, None)])

    def test_labels_of_several_generations(self):
        library = boxes()
        library.publish("ink", (2, 0), [], [("drop", (), "own", MAKE)])
        library.publish("box", (1, 0), [("ink", (2, 0), True), ("ink", (1, 0), True)])
        two = ("call", ("ink", 2), "drop", ())
        rows = [(two, ("ink", 2)), (DROP, INK), (("call", INK, "mix", (DROP, two)), None), (("if", MAKE, DROP, two), None)]
        self.assertEqual([kind for _, kind in rows], [kind_in(library, "box", (1, 0), each) for each, _ in rows])

    def test_unknown_releases_come_first(self):
        library = boxes()
        for value in odd_values():
            self.assert_fails(UnknownRelease, {"package": value, "version": (0, 0)}, kind_in, library, value, (0, 0), None)
            self.assert_fails(UnknownRelease, {"package": "box", "version": value}, kind_in, library, "box", value, MAKE)
        self.assert_fails(UnknownRelease, {"package": "box", "version": (0, 1)}, kind_in, library, package="box",
                          version=(0, 1), expression=MAKE)

    def test_values_that_are_no_expressions(self):
        library = boxes()
        for value in NO_EXPRESSIONS + odd_values() + [nested(6), wide(31), ("do", MAKE, ("make", True))]:
            self.assert_refused(library, InvalidCode, {"value": value}, kind_in, library, "box", (0, 0), value)
            self.assert_refused(library, InvalidCode, {"value": value}, kind_in, library, "box", (0, 0), value,
                                parameters=("own",))

    def test_it_changes_nothing(self):
        library = boxes()
        before = everything(library)
        kind_in(library, "box", (0, 0), ("do", FILL, ("param", 0)), parameters=("own",))
        self.assertEqual(before, everything(library))

    def test_drawn_code(self):
        chance = random.Random(53)
        counts = {"none": 0, "some": 0}
        for _ in range(60):
            library = drawn_library(chance)
            for package, version in library.releases():
                needs = library.needs(package, version)
                functions = library.functions(package, version)
                kinds = shown_kinds(library, needs)
                for at in range(len(functions) + 1):
                    known = signatures(library, needs, functions[:at])
                    parameters = tuple([chance.choice(kinds) for _ in range(3)])
                    # The parts are drawn for other functions and parameters, so that many do not fit.
                    other = signatures(library, needs, functions)
                    for kind in kinds:
                        expression = drawn_expression(chance, other, parameters[::-1], kind, 4)
                        if expression is not None:
                            right = kind_by_the_words(known, parameters, expression)
                            counts["none" if right is None else "some"] += 1
                            self.assert_accepted(library, package, version, (functions[:at], parameters, expression, right))
        self.assertGreater(min(counts.values()), 100)

    def assert_accepted(self, library, package, version, drawn):
        """A release of a new generation is accepted with this function behind others just if it has its kind."""
        functions, parameters, expression, right = drawn
        other = library.clone()
        needs = library.needs(package, version)
        for result in shown_kinds(library, needs):
            new = ("new", parameters, result, expression)
            arguments = (package, (version[0] + 7, 0), needs, functions + [new])
            if len(functions) == 4:
                return
            if result != right:
                told = {"problem": "body", "position": len(functions)}
                self.assert_fails(InvalidFunctions, told, other.publish, *arguments)
        if right is not None:
            other.publish(package, (version[0] + 7, 0), needs, functions + [("new", parameters, right, expression)])
        if len(functions) == len(library.functions(package, version)):
            self.assertEqual(right, kind_in(library, package, version, expression, parameters=parameters))

    def test_later_releases_accept_what_earlier_ones_accepted(self):
        chance = random.Random(54)
        compared = 0
        for _ in range(150):
            library = drawn_library(chance)
            for package, version in library.releases():
                earlier = [each for each in library.versions(package) if each[0] == version[0] and each < version]
                for before in earlier:
                    known = signatures(library, library.needs(package, before), library.functions(package, before))
                    for kind in shown_kinds(library, library.needs(package, before)):
                        expression = drawn_expression(chance, known, (kind,), kind, 4)
                        if expression is not None:
                            compared += 1
                            for each in (before, version):
                                self.assertEqual(kind, kind_in(library, package, each, expression, parameters=(kind,)))
        self.assertGreater(compared, 100)


class MainKindTest(ErrorCase):
    def test_kinds(self):
        project = Project(boxes(), [("pen", (1, 0)), ("ink", (1, 0))])
        pour = ("call", PEN, "pour", (MAKE, DROP))
        for expression, kind in [
            (MAKE, "own"), (("plus", MAKE, 1), "own"), (DROP, INK), (FILL, INK), (("do", DROP, FILL), INK),
            (("if", MAKE, DROP, FILL), INK),
            (("call", INK, "mix", (DROP, FILL)), INK), (("call", PEN, "take", (DROP,)), INK),
            (("param", 0), None), (pour, None), (("plus", DROP, 1), None), (("call", None, "drop", ()), None),
            (("call", BOX, "drop", ()), None),
            (("call", INK, "late", ()), None), (("if", MAKE, DROP, MAKE), None), (("do", ("param", 0), MAKE), None),
        ]:
            self.assertEqual(kind, main_kind(project, expression), expression)
        self.assertEqual(INK, main_kind(project=project, expression=DROP))

    def test_only_needs_of_the_main_program(self):
        project = Project(boxes(), [("pen", (1, 0))])
        self.assertEqual([None, INK], [main_kind(project, DROP), main_kind(project, FILL)])
        self.assertEqual(["own", None], [main_kind(Project(boxes()), each) for each in [MAKE, FILL]])

    def test_the_named_release_counts_and_not_the_resolved_one(self):
        project = Project(boxes(), [("ink", (1, 0))], locks=[((INK,), (1, 1))])
        late = ("call", INK, "late", ())
        self.assertEqual([None, INK], [main_kind(project, late), main_kind(project.with_need("ink", (1, 1)), late)])

    def test_values_that_are_no_expressions(self):
        project = Project(boxes(), [("pen", (1, 0))])
        for value in NO_EXPRESSIONS + odd_values() + [nested(6), wide(31)]:
            self.assert_fails(InvalidCode, {"value": value}, main_kind, project, value)

    def test_drawn_code(self):
        chance = random.Random(55)
        counts = {"none": 0, "some": 0}
        for _ in range(300):
            library = drawn_library(chance)
            needs = drawn_needs(chance, library)
            known = signatures(library, needs, [])
            other = {**signatures(library, drawn_needs(chance, library), []), **known, (None, "f"): ((), "own")}
            kind = chance.choice(sorted({result for _, result in other.values()}, key=repr))
            expression = drawn_expression(chance, other, (), kind, 4)
            if expression is not None:
                right = kind_by_the_words(known, (), expression)
                counts["none" if right is None else "some"] += 1
                self.assertEqual(right, main_kind(Project(library, needs), expression))
        self.assertGreater(min(counts.values()), 30)


if __name__ == "__main__":
    unittest.main()
