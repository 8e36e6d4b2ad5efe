import random
import unittest

from leastlinks.errors import InvalidFact
from leastlinks.facts import holds, is_fact
from leastlinks.linkages import Linkage
from leastlinks.projects import Project
from leastlinks.registry import Registry
from leastlinks.resolving import resolve
from tests.drawing import all_linkages, drawn_project
from tests.support import EqualToAll, ErrorCase, NoComparing, fonts, odd_values

FONT, PAGE, SITE = ("font", 1), ("page", 1), ("site", 1)
FACTS = [
    ("absurd",), ("atleast", (FONT,), (1, 0)), ("atleast", (FONT,), (1, 1)), ("atleast", (PAGE, FONT), (1, 1)),
    ("atleast", (FONT, PAGE), (1, 0)), ("atleast", (SITE,) * 10, (1, 0)), ("same", (FONT,), (FONT,)), ("same", (FONT,), (PAGE,)),
    ("same", (SITE, PAGE, FONT), (FONT,)), ("same", (SITE,) * 10, (FONT,) * 10),
]
# Each of these differs from a fact at one place.
WRONG_PATHS = [(), [FONT], FONT, None, "font/1", (["font", 1],), (("font", True),), (("font", 2),), (("text", 1),), (FONT, None),
               (PAGE, ("font", True)), (("none", 0), FONT), (FONT,) * 11, ((FONT,),), (("font", -1),), (FONT, ("font", "1"))]
WRONG_VERSIONS = [(1, 2), (0, 0), (2, 0), [1, 0], (True, 0), (1, False), (1, True), (1,), (1, 0, 0), None, "1.0", ("font", 1), ()]
WRONG_FACTS = [
    ["absurd"], ("absurd", None), ("absurd", ()), ("Absurd",), (b"absurd",), (None,), "absurd", (("absurd",),), (), ("atleast",),
    ("same",), ["atleast", (FONT,), (1, 0)], ("atleast", (FONT,)), ("atleast", (FONT,), (1, 0), ()), ("same", (FONT,)),
    ["same", (FONT,), (FONT,)], ("same", (FONT,), (FONT,), (FONT,)), ("atmost", (FONT,), (1, 0)), (None, (FONT,), (1, 0)),
    (EqualToAll(), (FONT,), (1, 0)), (NoComparing(), (FONT,), (FONT,)), (EqualToAll(),), (True, (FONT,), (FONT,)),
    ("same", (FONT,), (1, 0)), ("atleast", (FONT,), (FONT,)), ("absurd", (FONT,), (FONT,)), ("", (FONT,), (FONT,)),
]


class IsFactTest(ErrorCase):
    def test_facts(self):
        for fact in FACTS:
            self.assertIs(True, is_fact(Project(fonts()), fact))
        self.assertIs(True, is_fact(value=FACTS[0], project=Project(fonts())))

    def test_values_that_are_no_facts(self):
        project = Project(fonts(), [("site", (1, 0))])
        wrong = WRONG_FACTS + odd_values() + [FACTS]
        for value in WRONG_PATHS + odd_values():
            wrong += [("atleast", value, (1, 0)), ("same", value, (FONT,)), ("same", (FONT,), value)]
        for value in WRONG_VERSIONS + odd_values():
            wrong += [("atleast", (FONT,), value), ("atleast", (PAGE, FONT), value)]
        for value in wrong:
            self.assertIs(False, is_fact(project, value))
            self.assert_fails(InvalidFact, {"value": value}, holds, resolve(project), value)

    def test_the_version_of_a_release_with_the_last_label(self):
        registry = fonts()
        registry.publish("font", (2, 3))
        project = Project(registry)
        self.assertEqual([True, False, True, False, False], [is_fact(project, fact) for fact in [
            ("atleast", (("font", 2),), (2, 3)), ("atleast", (FONT,), (2, 3)), ("atleast", (("font", 2), FONT), (1, 1)),
            ("atleast", (FONT, ("font", 2)), (1, 1)), ("atleast", (PAGE,), (2, 3))]])

    def test_the_registry_of_the_project_counts(self):
        self.assertIs(False, is_fact(Project(Registry()), ("same", (FONT,), (FONT,))))
        self.assertIs(True, is_fact(Project(Registry()), ("absurd",)))


class HoldsTest(ErrorCase):
    def test_at_least(self):
        linkage = resolve(Project(fonts(), [("page", (1, 1)), ("font", (1, 0))]))
        facts = {
            ("atleast", (FONT,), (1, 0)): True, ("atleast", (FONT,), (1, 1)): True, ("atleast", (PAGE,), (1, 1)): True,
            ("atleast", (PAGE, FONT), (1, 1)): True, ("atleast", (SITE,), (1, 0)): False, ("atleast", (PAGE, PAGE), (1, 0)): False,
        }
        self.assertEqual(facts, {fact: holds(linkage, fact) for fact in facts})
        older = resolve(Project(fonts(), [("font", (1, 0))]))
        self.assertEqual([True, False], [holds(older, ("atleast", (FONT,), (1, step))) for step in (0, 1)])

    def test_same(self):
        linkage = resolve(Project(fonts(), [("page", (1, 0)), ("font", (1, 0)), ("site", (1, 0))]))
        shared, hidden = (PAGE, FONT), (SITE, PAGE, FONT)
        facts = {
            ("same", (FONT,), shared): True, ("same", shared, (FONT,)): True, ("same", hidden, hidden): True,
            ("same", hidden, (FONT,)): False, ("same", (FONT,), (PAGE,)): False, ("same", (FONT, FONT), (FONT, FONT)): False,
            ("same", (FONT,), (FONT, FONT)): False, ("same", (FONT, FONT), (FONT,)): False,
        }
        self.assertEqual(facts, {fact: holds(linkage, fact) for fact in facts})

    def test_absurd(self):
        self.assertIs(False, holds(resolve(Project(fonts())), ("absurd",)))
        self.assertIs(False, holds(fact=("absurd",), linkage=resolve(Project(Registry()))))

    def test_linkages_that_are_no_solutions(self):
        project = Project(fonts(), [("font", (1, 0)), ("page", (1, 0))])
        rows = [(None, {FONT: 1, PAGE: 2}), (("font", (1, 0)), {}), (("page", (1, 0)), {FONT: 3}), (("font", (1, 1)), {})]
        linkage = Linkage(project, rows)
        self.assertEqual([False, False, True, False], [holds(linkage, fact) for fact in [
            ("same", (FONT,), (PAGE, FONT)), ("atleast", (FONT,), (1, 1)), ("atleast", (PAGE, FONT), (1, 1)), ("absurd",)]])

    def test_drawn_linkages_by_the_words_of_the_document(self):
        chance = random.Random(31)
        for _ in range(40):
            project = drawn_project(chance, releases=6)
            for linkage in (all_linkages(project, 20) or []):
                paths = list(linkage.paths())[1:]
                others = [path + path[-1:] for path in paths if len(path) < 10] + [path[1:] for path in paths if len(path) > 1]
                for path in paths + others:
                    package, generation = path[-1]
                    for version in project.registry().versions(package):
                        if version[0] == generation:
                            right = path in paths and linkage.release(path)[1] >= version
                            self.assertIs(right, holds(linkage, ("atleast", path, version)))
                    for other in chance.sample(paths + others, min(5, len(paths + others))):
                        right = path in paths and other in paths and linkage.first_path(path) == linkage.first_path(other)
                        self.assertIs(right, holds(linkage, ("same", path, other)))


if __name__ == "__main__":
    unittest.main()
