import random
import unittest

from leastlinks.errors import Clash, InvalidPath, TooMany
from leastlinks.linkages import Linkage
from leastlinks.projects import Project
from leastlinks.registry import Registry
from leastlinks.resolving import is_solvable, oldest_release, resolve, resolve_all
from tests.drawing import all_linkages, crowded_project, drawn_locks, drawn_needs, drawn_project, drawn_registry
from tests.drawing import is_below_by_the_words, is_solution_by_the_words, separate_rows
from tests.support import ErrorCase, fonts, odd_values

FONT, PAGE, SITE = ("font", 1), ("page", 1), ("site", 1)
A, B, C, D = ("a", 0), ("b", 0), ("c", 0), ("d", 0)


def logs():
    """The registry of the document's example on clashes."""
    registry = Registry.of(log=True, ear=False, eye=False)
    registry.publish("log", (1, 0))
    registry.publish("log", (2, 0))
    registry.publish("ear", (1, 0), [("log", (1, 0), False)])
    registry.publish("eye", (1, 0), [("log", (2, 0), False)])
    return registry


def steps(*lines):
    """The registry with these lines."""
    return Registry.read("".join([line + "\n" for line in lines]))


def outcome(project):
    """The resolution of a project, or what its error tells."""
    try:
        return resolve(project)
    except Clash as error:
        return ("Clash", error.package)
    except TooMany as error:
        return ("TooMany", error.kind, error.limit)


class ResolveTest(ErrorCase):
    def test_no_needs(self):
        linkage = resolve(Project(fonts()))
        self.assertEqual([[()], True], [linkage.copies(), linkage.is_solution])
        self.assertEqual(0, len(resolve(Project(Registry()))))

    def test_hidden_needs_get_copies_of_their_own(self):
        project = Project(fonts(), [("site", (1, 0)), ("font", (1, 0))])
        linkage = resolve(project)
        self.assertEqual([(), (FONT,), (SITE,), (SITE, PAGE), (SITE, PAGE, FONT)], linkage.copies())
        self.assertEqual(project, linkage.project())

    def test_what_one_copy_sees_is_shared(self):
        linkage = resolve(Project(fonts(), [("page", (1, 1)), ("font", (1, 0))]))
        self.assertEqual("Linkage([((('font', 1),), (1, 1)), ((('page', 1),), (1, 1))])", repr(linkage))

    def test_two_generations_are_never_shared(self):
        registry = steps("package a", "release a 0.0", "release a 1.0", "package b", "release b 0.0 a/0.0+ a/1.0+")
        linkage = resolve(Project(registry, [("b", (0, 0)), ("a", (0, 0)), ("a", (1, 0))]))
        self.assertEqual([(), (A,), (("a", 1),), (B,)], linkage.copies())
        self.assertEqual({A: (A,), ("a", 1): (("a", 1),)}, linkage.links((B,)))

    def test_going_on_by_one_label_from_one_copy(self):
        # Both c and d see b, so they share it; b hides a, and both go on to the same a.
        registry = steps("package a", "release a 0.0", "package b", "release b 0.0 a/0.0", "release b 0.1 a/0.0",
                         "package c", "release c 0.0 b/0.0+", "package d", "release d 0.0 b/0.1+")
        linkage = resolve(Project(registry, [("c", (0, 0)), ("d", (0, 0))]))
        self.assertEqual([(), (C,), (C, B), (C, B, A), (D,)], linkage.copies())
        self.assertEqual([("b", (0, 1)), True], [linkage.release((C, B)), linkage.are_copies((C, B, A), (D, B, A))])

    def test_sharing_can_force_a_later_release_that_shows_more(self):
        # The copy of b becomes 0.1, which needs a 0.2; d names b 0.0, which hides a.
        registry = steps("package a", "release a 0.0", "release a 0.2", "package b", "release b 0.0 a/0.0",
                         "release b 0.1 a/0.2+", "package d", "release d 0.0 b/0.1+")
        linkage = resolve(Project(registry, [("b", (0, 0)), ("d", (0, 0)), ("a", (0, 0))]))
        self.assertEqual([(), (A,), (B,), (D,)], linkage.copies())
        self.assertEqual(["a", (0, 2)], list(linkage.release((A,))))
        apart = resolve(Project(registry, [("b", (0, 0)), ("a", (0, 0))], locks=[((B,), (0, 1))]))
        self.assertEqual([[(), (A,), (B,), (B, A)], (0, 0)], [apart.copies(), apart.release((A,))[1]])

    def test_only_the_first_need_of_a_chain_may_be_hidden(self):
        registry = steps("package a", "release a 0.0", "package b", "release b 0.0 a/0.0", "package c",
                         "release c 0.0 a/0.0 b/0.0", "package d", "release d 0.0 a/0.0 c/0.0")
        linkage = resolve(Project(registry, [("d", (0, 0)), ("a", (0, 0))]))
        self.assertEqual([(), (A,), (D,), (D, A), (D, C), (D, C, A), (D, C, B), (D, C, B, A)], linkage.copies())

    def test_sight_of_copies_that_are_not_the_main_one(self):
        registry = steps("package a", "release a 0.0", "release a 0.1", "package b", "release b 0.0 a/0.0+",
                         "package c", "release c 0.0 a/0.1 b/0.0")
        linkage = resolve(Project(registry, [("c", (0, 0)), ("a", (0, 0))]))
        self.assertEqual([(), (A,), (C,), (C, A), (C, B)], linkage.copies())
        self.assertEqual([True, (0, 1), (0, 0)], [linkage.are_copies((C, A), (C, B, A)), linkage.release((C, B, A))[1],
                                                  linkage.release((A,))[1]])


class SoleTest(ErrorCase):
    def test_a_sole_package_has_one_copy(self):
        registry = steps("package a sole", "release a 0.0", "release a 0.1", "package b", "release b 0.0 a/0.0", "package c",
                         "release c 0.0 a/0.1")
        linkage = resolve(Project(registry, [("b", (0, 0)), ("c", (0, 0))]))
        self.assertEqual([[(), (B,), (B, A), (C,)], ("a", (0, 1))], [linkage.copies(), linkage.release((B, A))])

    def test_a_clash(self):
        project = Project(logs(), [("ear", (1, 0)), ("eye", (1, 0))])
        self.assert_fails(Clash, {"package": "log"}, resolve, project)
        self.assertEqual(2, len(resolve(project.without_need(("eye", 1)))))
        self.assert_fails(Clash, {"package": "log"}, resolve, Project(logs(), [("log", (1, 0)), ("log", (2, 0))]))
        self.assert_fails(Clash, {"package": "log"}, resolve, Project(logs(), [("log", (1, 0)), ("eye", (1, 0))]))

    def test_the_clash_of_the_package_that_was_declared_last(self):
        lines = ["package a sole", "release a 0.0", "release a 1.0", "package b sole", "release b 0.0", "release b 1.0"]
        needs = [("a", (0, 0)), ("a", (1, 0)), ("b", (0, 0)), ("b", (1, 0))]
        self.assert_fails(Clash, {"package": "b"}, resolve, Project(steps(*lines), needs))
        self.assert_fails(Clash, {"package": "a"}, resolve, Project(steps(*lines[3:], *lines[:3]), needs))
        self.assert_fails(Clash, {"package": "a"}, resolve, Project(steps(*lines), needs[:3]))

    def test_a_release_that_is_forced_makes_the_clash(self):
        registry = steps("package a sole", "release a 0.0", "release a 1.0", "package b", "release b 0.0",
                         "release b 0.1 a/1.0", "package c", "release c 0.0 b/0.1+")
        needs = [("a", (0, 0)), ("b", (0, 0))]
        self.assertEqual(2, len(resolve(Project(registry, needs))))
        self.assert_fails(Clash, {"package": "a"}, resolve, Project(registry, needs + [("c", (0, 0))]))
        self.assert_fails(Clash, {"package": "a"}, resolve, Project(registry, needs, locks=[((B,), (0, 1))]))

    def test_locks_alone_make_no_clash(self):
        project = Project(logs(), [("ear", (1, 0))], locks=[((("log", 2),), (2, 0)), ((("eye", 1), ("log", 2)), (2, 0))])
        self.assertEqual(2, len(resolve(project)))


class LocksTest(ErrorCase):
    def test_locks_of_paths_of_the_resolution(self):
        path = (SITE, PAGE)
        locked = resolve(Project(fonts(), [("site", (1, 0))], locks=[(path, (1, 1))]))
        self.assertEqual([("page", (1, 1)), ("font", (1, 1))], [locked.release(path), locked.release(path + (FONT,))])
        locked = resolve(Project(fonts(), [("site", (1, 0))], locks=[(path + (FONT,), (1, 1))]))
        self.assertEqual([("page", (1, 0)), ("font", (1, 1))], [locked.release(path), locked.release(path + (FONT,))])

    def test_locks_of_other_paths_have_no_effect(self):
        locks = [((FONT,), (1, 1)), ((PAGE,), (1, 1)), ((SITE, FONT), (1, 1)), ((SITE, PAGE, FONT, FONT), (1, 1)),
                 ((PAGE, FONT, FONT), (1, 1)), ((FONT, SITE, PAGE, PAGE), (1, 1)), ((SITE,) * 10, (1, 0))]
        plain = resolve(Project(fonts(), [("site", (1, 0))]))
        self.assertEqual(plain, resolve(Project(fonts(), [("site", (1, 0))], locks=locks)))

    def test_a_lock_below_the_need_has_no_effect(self):
        project = Project(fonts(), [("page", (1, 1))], locks=[((PAGE,), (1, 0)), ((PAGE, FONT), (1, 0))])
        self.assertEqual(resolve(project.with_locks(())), resolve(project))

    def test_a_lock_of_any_path_of_a_copy(self):
        project = Project(fonts(), [("page", (1, 0)), ("font", (1, 0))])
        for path in [(FONT,), (PAGE, FONT)]:
            linkage = resolve(project.with_locks([(path, (1, 1))]))
            self.assertEqual([2, ("font", (1, 1))], [len(linkage), linkage.release((FONT,))])

    def test_a_lock_whose_path_only_another_lock_makes(self):
        registry = steps("package a", "release a 0.0", "release a 0.1", "package b", "release b 0.0", "release b 0.1 a/0.0")
        locks = [((B, A), (0, 1)), ((B,), (0, 1))]
        linkage = resolve(Project(registry, [("b", (0, 0))], locks=locks))
        self.assertEqual("Linkage([((('b', 0),), (0, 1)), ((('b', 0), ('a', 0)), (0, 1))])", repr(linkage))
        self.assertEqual(1, len(resolve(Project(registry, [("b", (0, 0))], locks=locks[:1]))))


class ManyCopiesTest(ErrorCase):
    def test_400_copies_and_401(self):
        project = crowded_project(400)
        linkage = resolve(project)
        self.assertEqual([400, True], [len(linkage), linkage.is_solution])
        self.assertEqual(Linkage(project, separate_rows(project)), linkage)
        self.assertIs(True, is_solvable(project))
        told = {"kind": "copies", "limit": 400}
        far = crowded_project(401)
        for call in [resolve, is_solvable, resolve_all]:
            self.assert_fails(TooMany, told, call, far)
        self.assert_fails(TooMany, told, oldest_release, far, ())
        self.assert_fails(InvalidPath, {"value": None}, oldest_release, far, None)

    def test_too_many_copies_beside_a_clash(self):
        # The sole package s has a clash; it comes before or behind the package whose copies are too many.
        for behind in [True, False]:
            registry = Registry.of(s=True) if behind else Registry()
            for package in "abcd":
                registry.declare(package)
            if not behind:
                registry.declare("s", sole=True)
            registry.publish("s", (0, 0))
            registry.publish("s", (1, 0))
            before = crowded_project(401).registry()
            for package, version in before.releases():
                registry.publish(package, version, before.needs(package, version))
            project = Project(registry, [("d", (0, 0)), ("c", (0, 0)), ("c", (1, 0)), ("c", (2, 0)), ("s", (0, 0)), ("s", (1, 0))])
            self.assert_fails(Clash, {"package": "s"}, resolve, project)
            registry.publish("d", (1, 0), [("c", (each, 0), False) for each in range(6)])
            project = project.without_need(("c", 0)).without_need(("c", 1))
            crowded = Project(registry, project.needs() + [("d", (1, 0))])
            error, told = (TooMany, {"kind": "copies", "limit": 400}) if behind else (Clash, {"package": "s"})
            self.assert_fails(error, told, resolve, crowded)
            if behind:
                self.assert_fails(error, told, is_solvable, crowded)
            else:
                self.assertIs(False, is_solvable(crowded))

    def test_sharing_keeps_the_copies_few(self):
        registry = crowded_project(401).registry()
        shown = Registry.of(a=False, b=False, c=False, d=False)
        for package, version in registry.releases():
            shown.publish(package, version, [(used, named, True) for used, named, _ in registry.needs(package, version)])
        self.assertEqual(19, len(resolve(Project(shown, [("d", (0, 0))]))))


class OtherFunctionsTest(ErrorCase):
    def test_is_solvable(self):
        project = Project(logs(), [("ear", (1, 0)), ("eye", (1, 0))])
        self.assertEqual([False, True, True], [is_solvable(each) for each in (
            project, project.without_need(("eye", 1)), Project(Registry()))])
        self.assertIs(False, is_solvable(project=project))

    def test_resolve_all(self):
        right = Project(logs(), [("ear", (1, 0))])
        clash = Project(logs(), [("ear", (1, 0)), ("eye", (1, 0))])
        self.assertEqual([[], [resolve(right)]], [resolve_all(), resolve_all(right)])
        linkages = resolve_all(right, Project(fonts()), right)
        self.assertEqual([2, 0, 2], [len(linkage) for linkage in linkages])
        self.assertIs(list, type(linkages))
        self.assert_fails(Clash, {"package": "log"}, resolve_all, right, clash, crowded_project(401))
        self.assert_fails(TooMany, {"kind": "copies", "limit": 400}, resolve_all, right, crowded_project(401), clash)

    def test_oldest_release(self):
        project = Project(fonts(), [("page", (1, 0))], locks=[((PAGE,), (1, 1))])
        paths = [(PAGE,), (PAGE, FONT), (), (FONT,), (SITE, PAGE), (("none", 7),), (PAGE,) * 10]
        self.assertEqual([(1, 1), (1, 1), None, None, None, None, None], [oldest_release(project, path) for path in paths])
        self.assertEqual((1, 1), oldest_release(path=(PAGE,), project=project))

    def test_oldest_release_of_values_that_are_no_paths(self):
        clash = Project(logs(), [("ear", (1, 0)), ("eye", (1, 0))])
        for value in [[], [PAGE], PAGE, (("page", True),), (PAGE,) * 11, "page/1", (PAGE, None)] + odd_values():
            self.assert_fails(InvalidPath, {"value": value}, oldest_release, Project(fonts()), value)
            self.assert_fails(InvalidPath, {"value": value}, oldest_release, clash, value)
        for path in [(), (("ear", 1),), (FONT,)]:
            self.assert_fails(Clash, {"package": "log"}, oldest_release, clash, path)


class GuaranteesTest(ErrorCase):
    def test_least_in_drawn_projects(self):
        chance = random.Random(20)
        counts = {"solutions": 0, "clashes": 0}
        for _ in range(700):
            project = drawn_project(chance, names=chance.choice(["abc", "abcd", "abcde"]), releases=chance.randint(4, 10))
            linkages = all_linkages(project, 60)
            if linkages is None:
                continue
            solutions = [linkage for linkage in linkages if is_solution_by_the_words(linkage)]
            if not solutions:
                counts["clashes"] += 1
                self.assertEqual([("Clash", False)], [(outcome(project)[0], is_solvable(project))])
                continue
            counts["solutions"] += len(solutions)
            least = resolve(project)
            self.assertIn(least, solutions)
            self.assertIs(True, least.is_solution)
            self.assertTrue(all(is_below_by_the_words(least, solution) for solution in solutions))
        self.assertGreater(counts["solutions"], 1000)
        self.assertGreater(counts["clashes"], 20)

    def test_registries_without_sole_packages_always_resolve(self):
        chance = random.Random(21)
        for _ in range(200):
            project = drawn_project(chance, names="abcdef", releases=14, sole=0)
            self.assertTrue(resolve(project).is_solution)

    def test_repeatable_while_the_registry_grows(self):
        chance = random.Random(22)
        for _ in range(60):
            registry = drawn_registry(chance, releases=6)
            needs = drawn_needs(chance, registry)
            locks = drawn_locks(chance, registry, needs)
            project = Project(registry, needs, locks=locks)
            before = outcome(project)
            registry.declare("z", sole=True)
            releases = [("z", (0, 0), ())]
            for package, version in list(registry.releases()):
                releases.append((package, (version[0], 9), registry.needs(package, version)))
                releases.append((package, (7, 0), ()))
            for package, version, used in releases:
                if not registry.has_release(package, version):
                    try:
                        registry.publish(package, version, used)
                    except RuntimeError:
                        continue
            self.assertEqual(before, outcome(project))
            self.assertEqual(before, outcome(Project(registry, needs, locks=locks)))

    def test_growing_edits(self):
        chance = random.Random(23)
        grown = 0
        for _ in range(150):
            registry = drawn_registry(chance, releases=10)
            project = Project(registry, drawn_needs(chance, registry, 2))
            edits = [("need", need) for need in drawn_needs(chance, registry, 2)]
            edits += [("lock", lock) for lock in drawn_locks(chance, registry, project.needs())]
            last = []
            for order in [edits, edits[::-1], chance.sample(edits, len(edits))]:
                edited = project
                for edit in order:
                    old = outcome(edited)
                    edited = with_edit(edited, edit)
                    new = outcome(edited)
                    if isinstance(new, Linkage):
                        grown += 1
                        self.assertTrue(is_below_by_the_words(old, new))
                last.append((edited.needs(), edited.locks(), outcome(edited)))
            self.assertEqual([last[0]] * 3, last)
        self.assertGreater(grown, 300)

    def test_resolving_changes_nothing(self):
        project = Project(fonts(), [("page", (1, 1)), ("font", (1, 0))], locks=[((FONT,), (1, 1))])
        before = [repr(project), str(project.registry())]
        self.assertEqual(resolve(project), resolve(project))
        oldest_release(project, (FONT,))
        self.assertEqual(before, [repr(project), str(project.registry())])


def with_edit(project, edit):
    """The project with a need or a lock added, or raised; a smaller one is left out."""
    word, (place, version) = edit
    if word == "need":
        present = [named for package, named in project.needs() if (package, named[0]) == (place, version[0])]
        return project if present and present[0] >= version else project.with_need(place, version)
    locks = dict(project.locks())
    locks[place] = max(version, locks.get(place, version))
    return project.with_locks(list(locks.items()))


if __name__ == "__main__":
    unittest.main()
