import random
import unittest

from leastlinks.deriving import can_derive, derive
from leastlinks.errors import Clash, InvalidFact, TooMany
from leastlinks.facts import holds, is_fact
from leastlinks.judging import is_derivation, needed_rows
from leastlinks.projects import Project
from leastlinks.registry import Registry
from leastlinks.resolving import is_solvable, resolve
from tests.drawing import all_linkages, crowded_project, drawn_project, is_solution_by_the_words
from tests.rules import all_derived
from tests.support import ErrorCase, fonts, odd_values
from tests.test_facts import WRONG_FACTS, WRONG_PATHS, WRONG_VERSIONS
from tests.test_judging import stage

FONT, PAGE, SITE = ("font", 1), ("page", 1), ("site", 1)
A, B, C, D = ("a", 0), ("b", 0), ("c", 0), ("d", 0)


def rules_in(rows):
    """The sorted rules that rows use."""
    return sorted({row[1] for row in rows})


def facts_on(project, paths):
    """All facts of a project on these paths."""
    registry = project.registry()
    facts = [("same", path, other) for path in paths for other in paths]
    for path in paths:
        package, generation = path[-1]
        facts += [("atleast", path, version) for version in registry.versions(package) if version[0] == generation]
    return facts


class DeriveTest(ErrorCase):
    def assert_derives(self, project, fact):
        """There is a derivation of the fact, all of whose rows are right and needed."""
        rows = derive(project, fact)
        self.assertIs(list, type(rows))
        self.assertTrue(is_derivation(project, rows), rows)
        self.assertEqual(fact, rows[-1][0])
        self.assertEqual(rows, needed_rows(project, rows))
        self.assertIs(True, can_derive(project, fact))
        return rows

    def assert_none(self, project, fact):
        self.assertIs(True, is_fact(project, fact))
        self.assertIsNone(derive(project, fact))
        self.assertIs(False, can_derive(project, fact))

    def test_needs(self):
        project = Project(fonts(), [("site", (1, 0))])
        rows = self.assert_derives(project, ("atleast", (SITE, PAGE, FONT), (1, 0)))
        self.assertEqual(["main", "need", "need"], [rule for _, rule, _ in rows])
        self.assert_none(project, ("atleast", (SITE, PAGE, FONT), (1, 1)))
        self.assert_none(project, ("atleast", (PAGE,), (1, 0)))

    def test_smaller_steps(self):
        project = Project(fonts(), [("page", (1, 1))])
        self.assertEqual(["less", "main"], rules_in(self.assert_derives(project, ("atleast", (PAGE,), (1, 0)))))
        self.assertEqual(["less", "main", "need"], rules_in(self.assert_derives(project, ("atleast", (PAGE, FONT), (1, 0)))))

    def test_locks(self):
        project = Project(fonts(), [("page", (1, 0))], locks=[((PAGE,), (1, 1))])
        self.assertEqual(["lock", "main", "need"], rules_in(self.assert_derives(project, ("atleast", (PAGE, FONT), (1, 1)))))
        self.assert_derives(project, ("atleast", (PAGE,), (1, 1)))

    def test_sight_and_transfer(self):
        project = Project(fonts(), [("page", (1, 0)), ("font", (1, 1))])
        self.assert_derives(project, ("same", (FONT,), (PAGE, FONT)))
        self.assert_derives(project, ("same", (PAGE, FONT), (FONT,)))
        self.assertIn("transfer", rules_in(self.assert_derives(project, ("atleast", (PAGE, FONT), (1, 1)))))
        locked = Project(fonts(), [("page", (1, 0)), ("font", (1, 0))], locks=[((PAGE, FONT), (1, 1))])
        self.assert_derives(locked, ("atleast", (FONT,), (1, 1)))

    def test_a_path_with_itself(self):
        project = Project(fonts(), [("site", (1, 0))])
        for path in [(SITE,), (SITE, PAGE), (SITE, PAGE, FONT)]:
            self.assert_derives(project, ("same", path, path))
        self.assert_none(project, ("same", (PAGE,), (PAGE,)))

    def test_sole_packages(self):
        project = stage().without_need(("y", 1)).without_need(("z", 0))
        for fact in [("same", (("x", 0), ("s", 1)), (("y", 0), ("s", 1))), ("same", (("y", 0), ("s", 1)), (("x", 0), ("s", 1))),
                     ("atleast", (("x", 0), ("s", 1)), (1, 1)), ("same", (("x", 0), ("s", 1), ("t", 0)), (("t", 0),))]:
            self.assert_derives(project, fact)
        self.assert_none(project, ("same", (("x", 0),), (("y", 0),)))

    def test_going_on_below_copies(self):
        registry = Registry.read("\n".join([
            "package a", "release a 0.0", "package b", "release b 0.0 a/0.0", "package c", "release c 0.0 b/0.0+",
            "package d", "release d 0.0 b/0.0+", ""]))
        project = Project(registry, [("c", (0, 0)), ("d", (0, 0))])
        rows = self.assert_derives(project, ("same", (D, B, A), (C, B, A)))
        self.assertIn("below", rules_in(rows))

    def test_sight_of_a_later_release(self):
        # The lock makes the page show its font, which only the need of another release names.
        registry = Registry.of(c=False, b=False, a=False)
        registry.publish("c", (1, 0))
        registry.publish("b", (1, 0), [("c", (1, 0), True)])
        registry.publish("b", (1, 1), [("c", (1, 0), True)])
        registry.publish("a", (1, 0), [("b", (1, 0), False)])
        registry.publish("a", (1, 1), [("b", (1, 1), True)])
        a, b, c = ("a", 1), ("b", 1), ("c", 1)
        project = Project(registry, [("a", (1, 0)), ("b", (1, 0))], locks=[((a,), (1, 1))])
        self.assert_derives(project, ("atleast", (a, b), (1, 1)))
        self.assert_none(project, ("same", (a, b), (b,)))
        self.assert_derives(project.with_need("a", (1, 1)), ("same", (a, b, c), (b, c)))

    def test_absurd(self):
        project = stage()
        rows = self.assert_derives(project, ("absurd",))
        self.assertEqual("absurd", rows[-1][1])
        for solvable in [project.without_need(("y", 1)).without_need(("z", 0)), Project(Registry()), Project(fonts())]:
            self.assert_none(solvable, ("absurd",))

    def test_an_absurd_fact_that_rests_on_forced_releases(self):
        registry = Registry.read("\n".join([
            "package s sole", "release s 0.0", "release s 1.0", "package b", "release b 0.0", "release b 0.1 s/1.0",
            "package c", "release c 0.0 b/0.1+", ""]))
        needs = [("s", (0, 0)), ("b", (0, 0))]
        self.assert_derives(Project(registry, needs + [("c", (0, 0))]), ("absurd",))
        self.assertIn("lock", rules_in(self.assert_derives(Project(registry, needs, locks=[((B,), (0, 1))]), ("absurd",))))
        self.assert_none(Project(registry, needs), ("absurd",))

    def test_arguments_by_name(self):
        project = Project(fonts(), [("page", (1, 0))])
        self.assertEqual(1, len(derive(fact=("atleast", (PAGE,), (1, 0)), project=project)))
        self.assertIs(True, can_derive(fact=("atleast", (PAGE,), (1, 0)), project=project))

    def test_what_is_returned_is_new(self):
        project = Project(fonts(), [("page", (1, 0))])
        before = [repr(project), str(project.registry())]
        first = derive(project, ("same", (PAGE, FONT), (PAGE, FONT)))
        again = list(first)
        first.clear()
        self.assertEqual(again, derive(project, ("same", (PAGE, FONT), (PAGE, FONT))))
        self.assertEqual(before, [repr(project), str(project.registry())])

    def test_a_large_linkage(self):
        project = crowded_project(400)
        linkage = resolve(project)
        path = linkage.copies()[-1]
        self.assert_derives(project, ("atleast", path, linkage.release(path)[1]))
        self.assert_none(project, ("same", linkage.copies()[1], path))

    def test_a_linkage_of_many_paths(self):
        names = "abcdefghij"
        registry = Registry.of(**{name: False for name in names})
        for before, name in zip(" " + names, names):
            for generation in range(4):
                used = [(before, (each, 0), True) for each in range(4)] if before != " " else []
                registry.publish(name, (generation, 0), used)
        project = Project(registry, [("j", (each, 0)) for each in range(4)])
        one, other = [tuple((name, each) for name in reversed(names)) for each in (0, 3)]
        self.assert_derives(project, ("same", one[:9] + (A,), other[:9] + (A,)))
        self.assert_none(project, ("same", one, other))


class WrongTest(ErrorCase):
    def test_values_that_are_no_facts(self):
        wrong = WRONG_FACTS + odd_values() + [("atleast", path, (1, 0)) for path in WRONG_PATHS]
        wrong += [("same", path, (FONT,)) for path in WRONG_PATHS] + [("same", (FONT,), path) for path in WRONG_PATHS]
        wrong += [("atleast", (FONT,), version) for version in WRONG_VERSIONS]
        for value in wrong:
            self.assert_fails(InvalidFact, {"value": value}, derive, Project(fonts(), [("page", (1, 0))]), value)
            self.assert_fails(InvalidFact, {"value": value}, can_derive, Project(fonts(), [("page", (1, 0))]), value)

    def test_clash(self):
        for fact in [("atleast", (("x", 0),), (0, 0)), ("same", (("x", 0),), (("x", 0),)), ("same", (("t", 0),) * 10, (("t", 0),))]:
            for call in [derive, can_derive]:
                self.assert_fails(Clash, {"package": "s"}, call, stage(), fact)
        for call in [derive, can_derive]:
            self.assert_fails(InvalidFact, {"value": None}, call, stage(), None)
        self.assertIs(True, can_derive(stage(), ("absurd",)))

    def test_too_many_copies(self):
        for fact in [("absurd",), ("atleast", (D,), (0, 0)), ("same", (A,), (B,))]:
            for call in [derive, can_derive]:
                self.assert_fails(TooMany, {"kind": "copies", "limit": 400}, call, crowded_project(401), fact)
        for call in [derive, can_derive]:
            self.assert_fails(InvalidFact, {"value": ("absurd", 0)}, call, crowded_project(401), ("absurd", 0))


class ExactTest(ErrorCase):
    def test_just_what_holds_in_every_solution(self):
        chance = random.Random(60)
        counts = {"solvable": 0, "not": 0, "derived": 0, "none": 0}
        for _ in range(150):
            project = drawn_project(chance, names=chance.choice(["abc", "abcd"]), releases=7)
            linkages = all_linkages(project, 60)
            if linkages is None:
                continue
            solutions = [linkage for linkage in linkages if is_solution_by_the_words(linkage)]
            self.assertIs(len(solutions) == 0, can_derive(project, ("absurd",)))
            if not solutions:
                counts["not"] += 1
                self.assertTrue(is_derivation(project, derive(project, ("absurd",))))
                continue
            counts["solvable"] += 1
            paths = sorted({path for linkage in linkages for path in linkage.paths()} - {()})
            facts = facts_on(project, chance.sample(paths, min(len(paths), 10)))
            for fact in chance.sample(facts, min(len(facts), 40)):
                right = all(holds(solution, fact) for solution in solutions)
                rows = derive(project, fact)
                counts["derived" if right else "none"] += 1
                self.assertIs(right, can_derive(project, fact))
                self.assertIs(right, rows is not None, fact)
                if rows is not None:
                    self.assertTrue(is_derivation(project, rows))
                    self.assertEqual(fact, rows[-1][0])
        self.assertGreater(min(counts.values()), 7)

    def test_just_what_the_table_of_rules_derives(self):
        chance = random.Random(61)
        counts = {True: 0, False: 0}
        for _ in range(120):
            project = drawn_project(chance, names="abc", releases=7, needs=2, sole=0.4)
            derived = {row[0] for row in all_derived(project)}
            counts[is_solvable(project)] += 1
            self.assertIs(("absurd",) in derived, can_derive(project, ("absurd",)))
            if is_solvable(project):
                paths = list(resolve(project).paths())[1:]
                self.assertEqual(derived, {fact for fact in facts_on(project, paths) if can_derive(project, fact)})
        self.assertGreater(min(counts.values()), 8)


if __name__ == "__main__":
    unittest.main()
