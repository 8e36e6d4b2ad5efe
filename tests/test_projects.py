import collections
import random
import unittest

from leastlinks.errors import InvalidLocks, InvalidNeeds, NoNeed, TooMany, UnknownRelease
from leastlinks.projects import Project
from leastlinks.registry import Registry
from tests.drawing import drawn_project, drawn_registry, main_chains
from tests.support import EqualToAll, ErrorCase, NoComparing, fonts, odd_values, without_kind

Version = collections.namedtuple("Version", "generation step")
Need = collections.namedtuple("Need", "package version")
FONT, PAGE, SITE = ("font", 1), ("page", 1), ("site", 1)
LOCK = ((FONT,), (1, 1))


def wide(generations=8):
    """A registry with so many generations of a, and b and c of a few releases."""
    registry = Registry.of(a=False, b=False, c=True)
    for generation in range(generations):
        registry.publish("a", (generation, 0))
    registry.publish("b", (0, 0), [("a", (0, 0), True), ("a", (1, 0), False)])
    registry.publish("b", (0, 1), [("a", (0, 0), True), ("a", (1, 0), True)])
    registry.publish("c", (2, 5), [("b", (0, 0), False)])
    return registry


def many_locks(count):
    """So many locks of the registry wide(21), with different paths of two labels."""
    labels = [("a", generation) for generation in range(21)]
    paths = [(one, other) for one in labels for other in labels]
    return [(path, (path[-1][1], 0)) for path in paths[:count]]


class MakingTest(ErrorCase):
    def test_needs_and_locks_are_listed(self):
        needs = [("a", (0, 0)), ("a", (3, 0)), ("b", (0, 1)), ("c", (2, 5))]
        locks = [((("a", 0),), (0, 0)), ((("b", 0),), (0, 1)), ((("b", 0), ("a", 0)), (0, 0)), ((("c", 2),), (2, 5))]
        for order in [(0, 1, 2, 3), (3, 2, 1, 0), (2, 0, 3, 1)]:
            for kind in [list, tuple]:
                given = kind(needs[at] for at in order)
                held = kind(locks[at] for at in order)
                project = Project(wide(), given, locks=held)
                self.assertEqual([needs, locks], [project.needs(), project.locks()])
                self.assertEqual([[needs[at] for at in order], [locks[at] for at in order]], [list(given), list(held)])
                self.assertEqual(Project(wide(), needs, locks=locks), project)

    def test_generations_are_listed_as_numbers(self):
        project = Project(wide(12), [("a", (10, 0)), ("b", (0, 0)), ("a", (9, 0))])
        self.assertEqual([("a", (9, 0)), ("a", (10, 0)), ("b", (0, 0))], project.needs())

    def test_no_needs_and_no_locks(self):
        project = Project(Registry())
        self.assertEqual([[], [], 0, "Project([], [])"], [project.needs(), project.locks(), len(project), repr(project)])
        self.assertEqual(project, Project(Registry(), [], locks=[]))
        self.assertEqual(project, Project(needs=(), registry=Registry(), locks=()))
        with self.assertRaises(TypeError):
            Project(Registry(), [], [])

    def test_needs_of_any_labels_may_be_locked(self):
        # A lock may have a path that no linkage has, and its labels may go up.
        path = (("a", 0), ("a", 0), ("c", 2), ("b", 0))
        self.assertEqual([(path, (0, 1))], Project(wide(), locks=[(path, (0, 1))]).locks())
        self.assertEqual(1, len(Project(wide(), locks=[((("a", 1),) * 10, (1, 0))]).locks()))

    def test_len_and_repr(self):
        project = Project(fonts(), [("site", (1, 0)), ("page", (1, 1))], locks=[LOCK])
        self.assertEqual(2, len(project))
        self.assertEqual("Project([('page', (1, 1)), ('site', (1, 0))], [((('font', 1),), (1, 1))])", repr(project))
        self.assertEqual(400, Project.MOST_LOCKS)

    def test_tuples_of_other_kinds_are_copied(self):
        path = (Need("font", 1),)
        project = Project(fonts(), [Need("page", Version(1, 1))], locks=[Need(path, Version(1, 0))])
        self.assertEqual("Project([('page', (1, 1))], [((('font', 1),), (1, 0))])", repr(project))
        self.assertEqual("Project([('page', (1, 1))], [])", repr(project.with_need("page", Version(1, 1)).with_locks(())))


class EqualTest(ErrorCase):
    def test_equal_projects(self):
        project = Project(fonts(), [("page", (1, 0))], locks=[LOCK])
        self.assertEqual(project, Project(fonts(), [("page", (1, 0))], locks=[LOCK]))
        others = [
            Project(fonts(), [("page", (1, 1))], locks=[LOCK]), Project(fonts(), [("page", (1, 0))]),
            Project(fonts(), locks=[LOCK]), Project(fonts(), [("page", (1, 0)), ("font", (1, 0))], locks=[LOCK]),
            Project(fonts(), [("page", (1, 0))], locks=[((FONT,), (1, 0))]),
        ]
        grown = fonts()
        grown.publish("font", (2, 0))
        for other in others + [Project(grown, [("page", (1, 0))], locks=[LOCK])]:
            self.assertNotEqual(project, other)
            self.assertFalse(project == other)

    def test_other_values(self):
        project = Project(fonts())
        for value in [None, 0, fonts(), [], "Project([], [])", ([], []), object()]:
            self.assertIs(False, project == value)
            self.assertIs(True, project != value)


class WrongNeedsTest(ErrorCase):
    def assert_wrong(self, position, needs):
        self.assert_fails(InvalidNeeds, {"position": position}, Project, fonts(), needs)

    def test_values_that_are_no_lists(self):
        for value in without_kind(odd_values(), (list, tuple)) + ["", {}, {"font": (1, 0)}, NoComparing(), EqualToAll()]:
            self.assert_wrong(None, value)

    def test_elements_that_are_no_needs(self):
        right = ("font", (1, 0))
        wrong = [["font", (1, 0)], ("font", [1, 0]), ("font", (1, 0), True), ("font",), ("Font", (1, 0)), ("font", (1, -1)),
                 ("font", (True, 0)), ("font", (1, False)), (True, (1, 0)), ("font", None), ("font", "1.0"), (("font", 1), 0)]
        for value in wrong + odd_values():
            self.assert_wrong(0, [value])
            self.assert_wrong(1, (right, value, value))

    def test_elements_with_an_earlier_label(self):
        self.assert_wrong(1, [("font", (1, 0)), ("font", (1, 1))])
        self.assert_wrong(1, [("font", (1, 0)), ("font", (1, 0))])
        self.assert_wrong(2, (("font", (1, 0)), ("page", (1, 0)), ("font", (1, 7)), None))
        self.assert_wrong(2, [("none", (1, 0)), ("page", (1, 0)), ("none", (1, 7))])

    def test_the_sixth_and_the_seventh_need(self):
        needs = [("a", (generation, 0)) for generation in range(8)]
        self.assertEqual(needs[:6], Project(wide(), needs[:6]).needs())
        self.assert_fails(TooMany, {"kind": "needs", "limit": 6}, Project, wide(), needs[:7])
        self.assert_fails(TooMany, {"kind": "needs", "limit": 6}, Project, wide(), needs)

    def test_needs_that_name_no_release(self):
        for package, version in [("font", (1, 2)), ("font", (0, 0)), ("text", (1, 0)), ("page", (2, 0))]:
            told = {"package": package, "version": version}
            self.assert_fails(UnknownRelease, told, Project, fonts(), [("site", (1, 0)), (package, version), ("none", (0, 0))])

    def test_of_two_errors_the_one_listed_first(self):
        far = [("a", (generation, 5)) for generation in range(8)]
        locks = [None]
        self.assert_fails(InvalidNeeds, {"position": None}, Project, wide(), None, locks=None)
        self.assert_fails(InvalidNeeds, {"position": 7}, Project, wide(), far[:7] + [None], locks=locks)
        self.assert_fails(TooMany, {"kind": "needs", "limit": 6}, Project, wide(), far, locks=locks)
        told = {"package": "a", "version": (0, 5)}
        self.assert_fails(UnknownRelease, told, Project, wide(), far[:6], locks=None)
        self.assert_fails(InvalidLocks, {"position": None}, Project, wide(21), [], locks=None)
        self.assert_fails(InvalidLocks, {"position": 401}, Project, wide(21), [], locks=many_locks(401) + [0])


class WrongLocksTest(ErrorCase):
    def assert_wrong(self, position, locks):
        self.assert_fails(InvalidLocks, {"position": position}, Project, fonts(), [], locks=locks)
        self.assert_fails(InvalidLocks, {"position": position}, Project(fonts()).with_locks, locks)

    def test_values_that_are_no_lists(self):
        for value in without_kind(odd_values(), (list, tuple)) + ["", {}, {(FONT,): (1, 0)}, NoComparing(), EqualToAll()]:
            self.assert_wrong(None, value)

    def test_elements_that_are_no_locks(self):
        wrong = [((), (1, 0)), ((FONT,), (1, 2)), ((FONT,), (0, 0)), ((PAGE,), (2, 0)), ((("font", 2),), (2, 0)),
                 ((("font", 2), FONT), (1, 0)), ((PAGE, ("text", 1)), (1, 0)), (FONT, (1, 0)), ([FONT], (1, 0)),
                 [(FONT,), (1, 0)], ((FONT,), [1, 0]), ((FONT,), (1, 0), 0), ((FONT,),), ((("font", True),), (1, 0)),
                 ((["font", 1],), (1, 0)), ((FONT,), (True, 0)), ((FONT,), (1, False)), ((FONT,), None), (None, (1, 0)),
                 ((PAGE, ("font", True)), (1, 0)), ((FONT,) * 11, (1, 0)), ((FONT, None), (1, 0)), ((FONT,), ("font", 1))]
        for value in wrong + odd_values():
            self.assert_wrong(0, [value])
            self.assert_wrong(1, (LOCK, value, None))

    def test_a_version_of_another_generation(self):
        for path, version in [((("a", 0),), (1, 0)), ((("b", 0), ("a", 3)), (0, 0)), ((("a", 3), ("b", 0)), (3, 0))]:
            self.assert_fails(InvalidLocks, {"position": 0}, Project, wide(), [], locks=[(path, version)])

    def test_elements_with_an_earlier_path(self):
        self.assert_wrong(1, [LOCK, LOCK])
        self.assert_wrong(1, [LOCK, ((FONT,), (1, 0))])
        self.assert_wrong(2, [LOCK, ((PAGE, FONT), (1, 0)), LOCK, 0])

    def test_400_locks_and_401(self):
        project = Project(wide(21), locks=many_locks(400))
        self.assertEqual(sorted(many_locks(400)), project.locks())
        told = {"kind": "locks", "limit": 400}
        self.assert_fails(TooMany, told, Project, wide(21), (), locks=many_locks(401))
        self.assert_fails(TooMany, told, project.with_locks, tuple(many_locks(401)))
        self.assertEqual(sorted(many_locks(400)), project.locks())


class SeesTest(ErrorCase):
    def test_only_the_first_need_may_be_hidden(self):
        registry = Registry.of(a=False, b=False, c=False)
        registry.publish("a", (0, 0))
        registry.publish("b", (0, 0), [("a", (0, 0), False)])
        registry.publish("b", (1, 0), [("a", (0, 0), True)])
        registry.publish("c", (0, 0), [("b", (0, 0), True), ("b", (1, 0), True)])
        project = Project(registry, [("c", (0, 0)), ("b", (1, 0))])
        a, b, d, c = ("a", 0), ("b", 0), ("b", 1), ("c", 0)
        self.assertEqual([True, True, False, True, True, True, True, False, False], [project.sees(chain) for chain in [
            (c,), (c, b), (c, b, a), (c, d), (c, d, a), (d,), (d, a), (b,), (a,)]])

    def test_values_that_are_no_chains(self):
        project = Project(fonts(), [("page", (1, 0)), ("font", (1, 0))])
        values = [(), [], [FONT], FONT, (FONT, FONT), (("font", True),), (["font", 1],), "font/1", (PAGE, None), (PAGE,) * 11,
                  (FONT, PAGE), (("font", 0),), (("text", 1),), ((FONT,),), (SITE,), (PAGE, ("font", True))]
        for value in values + odd_values():
            self.assertIs(False, project.sees(value))
            self.assertIs(False, Project(Registry()).sees(value))
        self.assertIs(True, project.sees((PAGE, FONT)))
        self.assertIs(True, project.sees(chain=(FONT,)))

    def test_only_named_releases_count(self):
        registry = wide()
        self.assertIs(False, Project(registry, [("b", (0, 0))]).sees((("b", 0), ("a", 1))))
        self.assertIs(True, Project(registry, [("b", (0, 1))]).sees((("b", 0), ("a", 1))))
        locked = Project(registry, [("b", (0, 0))], locks=[((("b", 0),), (0, 1))])
        self.assertIs(False, locked.sees((("b", 0), ("a", 1))))

    def test_drawn_projects_by_the_words_of_the_document(self):
        chance = random.Random(5)
        for _ in range(60):
            project = drawn_project(chance)
            seen = main_chains(project)
            labels = sorted({label for chain in seen for label in chain})
            others = [tuple(chance.choices(labels, k=chance.randint(1, 3))) for _ in range(20)]
            for chain in seen + others:
                self.assertIs(chain in seen, project.sees(chain))


class OtherProjectsTest(ErrorCase):
    def setUp(self):
        self.project = Project(wide(), [("a", (0, 0)), ("b", (0, 0))], locks=[((("a", 0),), (0, 0))])

    def assert_kept(self):
        self.assertEqual("Project([('a', (0, 0)), ('b', (0, 0))], [((('a', 0),), (0, 0))])", repr(self.project))

    def test_with_need(self):
        more = self.project.with_need("c", (2, 5))
        self.assertEqual([("a", (0, 0)), ("b", (0, 0)), ("c", (2, 5))], more.needs())
        self.assertEqual([("a", (0, 0)), ("b", (0, 1))], self.project.with_need("b", (0, 1)).needs())
        self.assertEqual([("a", (0, 0)), ("b", (0, 0))], self.project.with_need("b", (0, 1)).with_need("b", (0, 0)).needs())
        self.assertEqual([("a", (0, 0)), ("a", (3, 0)), ("b", (0, 0))], self.project.with_need(version=(3, 0), package="a").needs())
        self.assertEqual(self.project, self.project.with_need("a", (0, 0)))
        self.assertEqual([self.project.locks(), wide()], [more.locks(), more.registry()])
        self.assert_kept()

    def test_with_need_at_the_limit(self):
        project = self.project
        for generation in [2, 3, 4, 5]:
            project = project.with_need("a", (generation, 0))
        told = {"kind": "needs", "limit": 6}
        self.assert_fails(TooMany, told, project.with_need, "a", (1, 0))
        self.assert_fails(UnknownRelease, {"package": "a", "version": (1, 1)}, project.with_need, "a", (1, 1))
        self.assertEqual([("b", (0, 1)), 6], [project.with_need("b", (0, 1)).needs()[-1], len(project)])

    def test_with_need_of_no_release(self):
        pairs = [("a", (0, 1)), ("d", (0, 0)), ("a", [0, 0]), ("a", (False, 0)), (["a"], (0, 0))]
        for package, version in pairs + [("a", value) for value in odd_values()] + [(value, (0, 0)) for value in odd_values()]:
            told = {"package": package, "version": version}
            self.assert_fails(UnknownRelease, told, self.project.with_need, package, version)
        self.assert_kept()

    def test_without_need(self):
        self.assertEqual([("b", (0, 0))], self.project.without_need(("a", 0)).needs())
        self.assertEqual([("a", (0, 0))], self.project.without_need(label=("b", 0)).needs())
        self.assertEqual(self.project.locks(), self.project.without_need(("a", 0)).locks())
        self.assertEqual([], self.project.without_need(("a", 0)).without_need(("b", 0)).needs())
        self.assert_kept()

    def test_without_a_need_that_is_not_there(self):
        for value in [("a", 1), ("c", 2), ("b", False), ["a", 0], ("a", (0, 0)), "a/0", (("a", 0),), ()] + odd_values():
            self.assert_fails(NoNeed, {"label": value}, self.project.without_need, value)
        self.assert_fails(NoNeed, {"label": ("a", 0)}, self.project.without_need(("a", 0)).without_need, ("a", 0))

    def test_with_locks(self):
        locks = [((("b", 0),), (0, 1)), ((("a", 2),), (2, 0))]
        self.assertEqual(sorted(locks), self.project.with_locks(locks).locks())
        self.assertEqual(sorted(locks), self.project.with_locks(locks=tuple(locks)).locks())
        self.assertEqual([[], self.project.needs()], [self.project.with_locks(()).locks(), self.project.with_locks([]).needs()])
        self.assert_kept()


class CopiesTest(ErrorCase):
    def test_later_changes_have_no_effect(self):
        registry, needs, locks = wide(), [("b", (0, 0))], [((("a", 0),), (0, 0))]
        project = Project(registry, needs, locks=locks)
        registry.publish("b", (0, 2), [("a", (0, 0), True), ("a", (1, 0), True)])
        needs.append(("a", (0, 0)))
        locks.clear()
        self.assertEqual("Project([('b', (0, 0))], [((('a', 0),), (0, 0))])", repr(project))
        self.assertEqual(wide(), project.registry())
        self.assert_fails(UnknownRelease, {"package": "b", "version": (0, 2)}, project.with_need, "b", (0, 2))

    def test_what_is_returned_is_new(self):
        project = Project(wide(), [("b", (0, 0))], locks=[((("a", 0),), (0, 0))])
        project.needs().clear()
        project.locks().append(None)
        project.registry().publish("a", (0, 9))
        self.assertEqual([("b", (0, 0))], project.needs())
        self.assertEqual([((("a", 0),), (0, 0))], project.locks())
        self.assertEqual(wide(), project.registry())
        self.assertIsNot(project.registry(), project.registry())

    def test_projects_are_independent_of_each_other(self):
        registry = drawn_registry(random.Random(3))
        one = Project(registry)
        registry.declare("z")
        other = Project(registry)
        self.assertNotEqual(one, other)
        self.assertEqual([False, True], [one.registry().has_package("z"), other.registry().has_package("z")])


if __name__ == "__main__":
    unittest.main()
