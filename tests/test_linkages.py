import random
import unittest

from leastlinks.errors import UnknownPath
from leastlinks.linkages import Linkage
from leastlinks.projects import Project
from leastlinks.registry import Registry
from tests.drawing import all_linkages, drawn_project, is_solution_by_the_words, seen_by_the_words, told
from tests.support import ErrorCase, fonts, odd_values

FONT, PAGE, SITE = ("font", 1), ("page", 1), ("site", 1)
OLD, NEW = ("font", (1, 0)), ("font", (1, 1))


def apart(project=None):
    """A linkage in which the main copy and the page have fonts of their own."""
    project = Project(fonts(), [("font", (1, 0)), ("page", (1, 0))]) if project is None else project
    return Linkage(project, [(None, {FONT: 1, PAGE: 2}), (OLD, {}), (("page", (1, 0)), {FONT: 3}), (NEW, {})])


def shared(project=None):
    """A linkage in which both have the same font."""
    project = Project(fonts(), [("font", (1, 0)), ("page", (1, 0))]) if project is None else project
    return Linkage(project, [(None, {FONT: 2, PAGE: 1}), (("page", (1, 0)), {FONT: 2}), (NEW, {})])


def diamond():
    """A registry in which d needs b and c, which both need a; b shows it, c hides it."""
    registry = Registry.of(a=False, b=False, c=False, d=False)
    for step in range(3):
        registry.publish("a", (0, step))
    registry.publish("b", (0, 0), [("a", (0, 0), True)])
    registry.publish("c", (0, 0), [("a", (0, 1), False)])
    registry.publish("c", (0, 1), [("a", (0, 1), True)])
    registry.publish("d", (0, 0), [("b", (0, 0), True), ("c", (0, 0), False)])
    return registry


A, B, C, D = ("a", 0), ("b", 0), ("c", 0), ("d", 0)


def whole(linkage):
    """All that a linkage tells, as one text."""
    rows = [repr(linkage), repr(linkage.rows()), repr(linkage.copies()), repr(list(linkage.paths()))]
    rows += [repr((linkage.links(path), linkage.seen(path), linkage.release(path))) for path in linkage.paths()]
    return rows + [repr((linkage.is_solution, linkage.sight_conflict(), linkage.sole_conflict(), linkage.lock_conflict()))]


class CopiesTest(ErrorCase):
    def test_separate_and_shared_copies(self):
        self.assertEqual([(), (FONT,), (PAGE,), (PAGE, FONT)], apart().copies())
        self.assertEqual([(), (FONT,), (PAGE,)], shared().copies())
        self.assertEqual([3, 2], [len(apart()), len(shared())])
        self.assertEqual([False, True], [each.are_copies((FONT,), (PAGE, FONT)) for each in (apart(), shared())])
        self.assertEqual([(PAGE, FONT), (FONT,)], [each.first_path((PAGE, FONT)) for each in (apart(), shared())])
        self.assertEqual([(), ()], [each.first_path(()) for each in (apart(), shared())])

    def test_releases_and_links(self):
        linkage = apart()
        self.assertEqual([None, OLD, ("page", (1, 0)), NEW], [linkage.release(path) for path in linkage.copies()])
        self.assertEqual({FONT: (FONT,), PAGE: (PAGE,)}, linkage.links(()))
        self.assertEqual([{}, {FONT: (PAGE, FONT)}, {}], [linkage.links(path) for path in linkage.copies()[1:]])
        self.assertEqual({FONT: (FONT,)}, shared().links((PAGE,)))
        self.assertEqual([FONT, PAGE], list(shared().links(())))

    def test_the_main_copy_alone(self):
        linkage = Linkage(Project(Registry()), [(None, {})])
        self.assertEqual([[()], [()], 0, "Linkage([])"], [linkage.copies(), list(linkage.paths()), len(linkage), repr(linkage)])
        self.assertEqual([None, {}, {}, True], [linkage.release(()), linkage.links(()), linkage.seen(()), linkage.is_solution])
        self.assertEqual([(None, {})], linkage.rows())

    def test_paths_in_sorted_order(self):
        self.assertEqual([(), (FONT,), (PAGE,), (PAGE, FONT)], list(shared().paths()))
        paths = shared().paths()
        self.assertIs(paths, iter(paths))
        linkage = shared()
        self.assertEqual([(path, path) for path in linkage.paths()], list(zip(linkage.paths(), linkage.paths())))

    def test_has_path(self):
        linkage = apart()
        for path in linkage.paths():
            self.assertIs(True, linkage.has_path(path))
        values = [[], [FONT], FONT, (SITE,), (FONT, FONT), (PAGE, PAGE), (("font", True),), (PAGE, ("font", True)), (["font", 1],),
                  (PAGE, FONT, FONT), (PAGE,) * 11, "font/1", (("font", 0),), (FONT, PAGE), (PAGE, None), ((FONT,),)]
        for value in values + odd_values():
            self.assertIs(False, linkage.has_path(value))

    def test_later_releases_than_the_named_ones(self):
        project = Project(fonts(), [("page", (1, 0))])
        linkage = Linkage(project, [(None, {PAGE: 1}), (("page", (1, 1)), {FONT: 2}), (NEW, {})])
        self.assertEqual([("page", (1, 1)), NEW], [linkage.release((PAGE,)), linkage.release((PAGE, FONT))])
        self.assertIs(True, linkage.is_solution)
        self.assertEqual("Linkage([((('page', 1),), (1, 1)), ((('page', 1), ('font', 1)), (1, 1))])", repr(linkage))

    def test_first_paths_are_first_in_sorted_order(self):
        # The shorter path to the shared copy is the later one.
        project = Project(diamond(), [("d", (0, 0)), ("c", (0, 0)), ("b", (0, 0))])
        rows = [(None, {B: 1, C: 2, D: 3}), (("b", (0, 0)), {A: 4}), (("c", (0, 0)), {A: 4}), (("d", (0, 0)), {B: 1, C: 5}),
                (("a", (0, 2)), {}), (("c", (0, 1)), {A: 4})]
        linkage = Linkage(project, rows)
        self.assertEqual([(), (B,), (B, A), (C,), (D,), (D, C)], linkage.copies())
        self.assertEqual([(B, A), (B,)], [linkage.first_path((D, C, A)), linkage.first_path((D, B))])
        self.assertEqual([(), (B,), (B, A), (C,), (C, A), (D,), (D, B), (D, B, A), (D, C), (D, C, A)], list(linkage.paths()))

    def test_paths_of_which_there_are_many(self):
        names = "abcdefghij"
        registry = Registry.of(**{name: False for name in names})
        for before, name in zip(" " + names, names):
            for generation in range(4):
                needs = [(before, (each, 0), True) for each in range(4)] if before != " " else []
                registry.publish(name, (generation, 0), needs)
        rows = [(None, {("j", each): 37 + each for each in range(4)})]
        for at in range(40):
            before = 4 * (at // 4) - 3
            links = {(names[at // 4 - 1], each): before + each for each in range(4)} if at >= 4 else {}
            rows.append(((names[at // 4], (at % 4, 0)), links))
        linkage = Linkage(Project(registry, [("j", (each, 0)) for each in range(4)]), rows)
        first = tuple((name, 0) for name in reversed(names))
        self.assertEqual([40, True, first], [len(linkage), linkage.is_solution, linkage.first_path(first[:9] + (("a", 0),))])
        self.assertEqual(first[:9] + (("a", 3),), linkage.first_path((("j", 3),) * 1 + tuple((name, 3) for name in "ihgfedcba")))


class RowsTest(ErrorCase):
    def test_rows_make_an_equal_linkage(self):
        for linkage in [apart(), shared()]:
            self.assertEqual(linkage, Linkage(linkage.project(), linkage.rows()))
            self.assertEqual(linkage.rows(), Linkage(linkage.project(), linkage.rows()).rows())
        self.assertEqual([(None, {FONT: 1, PAGE: 2}), (NEW, {}), (("page", (1, 0)), {FONT: 1})], shared().rows())
        self.assertEqual([FONT, PAGE], list(shared().rows()[0][1]))

    def test_the_sequence_of_rows_and_keys_has_no_meaning(self):
        project = Project(fonts(), [("font", (1, 0)), ("page", (1, 0))])
        rows = [(None, {PAGE: 1, FONT: 3}), (("page", (1, 0)), {FONT: 2}), (NEW, {}), (OLD, {})]
        linkage = Linkage(project, rows)
        self.assertEqual(apart(), linkage)
        self.assertEqual(whole(apart()), whole(linkage))
        self.assertEqual([(None, {PAGE: 1, FONT: 3}), (("page", (1, 0)), {FONT: 2}), (NEW, {}), (OLD, {})], rows)

    def test_later_changes_have_no_effect(self):
        rows = apart().rows()
        linkage = Linkage(apart().project(), rows)
        rows[0][1][FONT] = 3
        rows[2][1].clear()
        rows.pop()
        self.assertEqual(whole(apart()), whole(linkage))
        linkage.rows()[2][1].clear()
        linkage.rows().clear()
        linkage.copies().clear()
        linkage.links(()).clear()
        linkage.seen(())[FONT].clear()
        linkage.seen(()).clear()
        self.assertEqual(whole(apart()), whole(linkage))

    def test_a_later_change_of_the_registry_has_no_effect(self):
        registry = fonts()
        project = Project(registry, [("font", (1, 0)), ("page", (1, 0))])
        linkage = apart(project)
        registry.publish("page", (1, 2), [("font", (1, 1), True)])
        registry.publish("font", (1, 2))
        self.assertEqual(whole(apart()), whole(linkage))
        self.assertEqual(project, linkage.project())

    def test_tuples_of_other_kinds_are_copied(self):
        rows = [(None, {Pair("font", 1): 1, Pair("page", 1): 2}), (Pair("font", Pair(1, 0)), {}),
                (Pair("page", (1, 0)), {Pair("font", 1): 3}), (NEW, {})]
        self.assertEqual(whole(apart()), whole(Linkage(apart().project(), rows)))


class Pair(tuple):
    """A tuple of another class, which shows itself in another way."""

    def __new__(cls, *parts):
        return tuple.__new__(cls, parts)

    def __repr__(self):
        return "Pair"


class EqualTest(ErrorCase):
    def test_linkages_of_different_projects(self):
        registry = fonts()
        registry.publish("site", (1, 1), [("page", (1, 0), True)])
        other = Project(registry, [("font", (1, 1)), ("page", (1, 0))], locks=[((SITE,), (1, 1))])
        self.assertEqual(shared(), shared(other))
        self.assertNotEqual(shared().project(), shared(other).project())
        self.assertEqual(other, shared(other).project())

    def test_different_linkages(self):
        project = Project(fonts(), [("font", (1, 0)), ("page", (1, 0))])
        main, page = (None, {FONT: 1, PAGE: 2}), ("page", (1, 0))
        linkages = [
            apart(), shared(), Linkage(project, [main, (OLD, {}), (page, {FONT: 3}), (OLD, {})]),
            Linkage(project, [main, (NEW, {}), (page, {FONT: 3}), (NEW, {})]), Linkage(project, [main, (OLD, {}), (page, {FONT: 1})]),
            Linkage(project, [main, (NEW, {}), (("page", (1, 1)), {FONT: 1})]),
            Linkage(Project(fonts(), [("page", (1, 0))]), [(None, {PAGE: 1}), (page, {FONT: 2}), (NEW, {})]),
        ]
        for at, one in enumerate(linkages):
            for far, other in enumerate(linkages):
                self.assertIs(at == far, one == other)
                self.assertIs(at != far, one != other)

    def test_other_values(self):
        for value in [None, 0, apart().project(), apart().rows(), repr(apart()), [], object()]:
            self.assertIs(False, apart() == value)
            self.assertIs(True, apart() != value)

    def test_drawn_linkages_are_equal_if_all_that_counts_is(self):
        chance = random.Random(11)
        for _ in range(40):
            linkages = all_linkages(drawn_project(chance, names="abc", releases=6), 30) or []
            for one in linkages:
                for other in linkages:
                    self.assertIs(told(one) == told(other), one == other)


class SeenTest(ErrorCase):
    def test_under_each_label(self):
        self.assertEqual({FONT: [(FONT,), (PAGE, FONT)], PAGE: [(PAGE,)]}, apart().seen(()))
        self.assertEqual({FONT: [(FONT,)], PAGE: [(PAGE,)]}, shared().seen(()))
        self.assertEqual([{FONT: [(PAGE, FONT)]}, {}], [apart().seen((PAGE,)), apart().seen((FONT,))])
        self.assertEqual([FONT, PAGE], list(shared().seen(())))

    def test_only_the_first_need_of_a_chain_may_be_hidden(self):
        project = Project(diamond(), [("d", (0, 0))])
        rows = [(None, {D: 1}), (("d", (0, 0)), {B: 2, C: 3}), (("b", (0, 0)), {A: 4}), (("c", (0, 0)), {A: 5}),
                (("a", (0, 0)), {}), (("a", (0, 1)), {})]
        linkage = Linkage(project, rows)
        # d hides c, which hides its a; d shows b, which shows its a.
        self.assertEqual({A: [(D, B, A)], B: [(D, B)], D: [(D,)]}, linkage.seen(()))
        self.assertEqual({A: [(D, B, A)], B: [(D, B)], C: [(D, C)]}, linkage.seen((D,)))
        self.assertEqual({A: [(D, C, A)]}, linkage.seen((D, C)))
        self.assertIs(True, linkage.is_solution)

    def test_only_the_named_releases_count(self):
        project = Project(diamond(), [("b", (0, 0)), ("c", (0, 0))])
        rows = [(None, {B: 1, C: 2}), (("b", (0, 0)), {A: 3}), (("c", (0, 1)), {A: 4}), (("a", (0, 0)), {}), (("a", (0, 1)), {})]
        # The copy of c shows its a, but the release that the main program names does not.
        self.assertEqual([{A: [(B, A)], B: [(B,)], C: [(C,)]}, True],
                         [Linkage(project, rows).seen(()), Linkage(project, rows).is_solution])
        named = Project(diamond(), [("b", (0, 0)), ("c", (0, 1))])
        self.assertEqual([{A: [(B, A), (C, A)], B: [(B,)], C: [(C,)]}, ((), A)],
                         [Linkage(named, rows).seen(()), Linkage(named, rows).sight_conflict()])

    def test_one_copy_as_two_named_releases(self):
        registry = Registry.of(a=False, b=False, c=False, d=False)
        registry.publish("a", (0, 0))
        registry.publish("b", (0, 0), [("a", (0, 0), False)])
        registry.publish("b", (0, 1), [("a", (0, 0), True)])
        registry.publish("c", (0, 0), [("b", (0, 1), True)])
        registry.publish("d", (0, 0), [("b", (0, 0), True)])
        for needs, seen in [([("d", (0, 0))], False), ([("c", (0, 0))], True), ([("c", (0, 0)), ("d", (0, 0))], True)]:
            project = Project(registry, needs)
            labels = [(package, 0) for package, _ in needs]
            rows = [(None, {label: at + 3 for at, label in enumerate(labels)}), (("a", (0, 0)), {}), (("b", (0, 1)), {A: 1})]
            linkage = Linkage(project, rows + [((package, (0, 0)), {B: 2}) for package, _ in needs])
            self.assertIs(seen, A in linkage.seen(()))

    def test_drawn_linkages_by_the_words_of_the_document(self):
        chance = random.Random(7)
        count = 0
        for _ in range(150):
            for linkage in all_linkages(drawn_project(chance), 40) or []:
                count += 1
                for path in linkage.copies():
                    self.assertEqual(seen_by_the_words(linkage, path), linkage.seen(path))
                    self.assertEqual(list(seen_by_the_words(linkage, path)), list(linkage.seen(path)))
                self.assertIs(is_solution_by_the_words(linkage), linkage.is_solution)
        self.assertGreater(count, 200)


class ConflictsTest(ErrorCase):
    def conflicts(self, linkage):
        return [linkage.sight_conflict(), linkage.sole_conflict(), linkage.lock_conflict(), linkage.is_solution]

    def test_none(self):
        self.assertEqual([None, None, None, True], self.conflicts(shared()))

    def test_sight(self):
        self.assertEqual([((), FONT), None, None, False], self.conflicts(apart()))

    def test_the_first_copy_and_the_first_label(self):
        registry = Registry.of(a=False, b=False, c=False, d=False)
        registry.publish("a", (0, 0))
        registry.publish("b", (0, 0), [("a", (0, 0), True)])
        registry.publish("c", (0, 0), [("a", (0, 0), True), ("b", (0, 0), True)])
        registry.publish("d", (0, 0), [("b", (0, 0), True), ("c", (0, 0), True)])
        a, b, c, d = [(name, (0, 0)) for name in "abcd"]
        project = Project(registry, [d])
        # Two copies of a and two of b are seen under their labels, the main copy coming first.
        rows = [(None, {D: 1}), (d, {B: 2, C: 3}), (b, {A: 4}), (c, {A: 5, B: 6}), (a, {}), (a, {}), (b, {A: 5})]
        self.assertEqual(((), A), Linkage(project, rows).sight_conflict())
        rows = [(None, {D: 1}), (d, {B: 2, C: 3}), (b, {A: 4}), (c, {A: 4, B: 5}), (a, {}), (b, {A: 4})]
        self.assertEqual(((), B), Linkage(project, rows).sight_conflict())

    def test_a_copy_that_is_not_the_main_one(self):
        registry = diamond()
        registry.publish("d", (1, 0), [("b", (0, 0), False), ("c", (0, 1), False)])
        project = Project(registry, [("d", (1, 0)), ("a", (0, 0))])
        rows = [(None, {A: 1, ("d", 1): 2}), (("a", (0, 0)), {}), (("d", (1, 0)), {B: 3, C: 4}), (("b", (0, 0)), {A: 1}),
                (("c", (0, 1)), {A: 5}), (("a", (0, 1)), {})]
        self.assertEqual([((("d", 1),), A), None, None, False], self.conflicts(Linkage(project, rows)))

    def test_sole(self):
        registry = Registry.of(x=True, a=True, b=False, c=False)
        for name in "xa":
            registry.publish(name, (0, 0))
            registry.publish(name, (1, 0))
        registry.publish("b", (0, 0), [("a", (0, 0), False), ("x", (0, 0), False)])
        registry.publish("c", (0, 0), [("a", (0, 0), False), ("x", (1, 0), False)])
        project = Project(registry, [("b", (0, 0)), ("c", (0, 0))])
        x, y = ("x", 0), ("x", 1)
        rows = [(None, {B: 1, C: 2}), (("b", (0, 0)), {A: 3, x: 4}), (("c", (0, 0)), {A: 5, y: 6}), (("a", (0, 0)), {}),
                (("x", (0, 0)), {}), (("a", (0, 0)), {}), (("x", (1, 0)), {})]
        # The first one as declared, not by its name or its copies.
        self.assertEqual([None, "x", None, False], self.conflicts(Linkage(project, rows)))
        project = Project(registry, [("b", (0, 0)), ("a", (0, 0))])
        rows = [(None, {A: 4, B: 1}), (("b", (0, 0)), {A: 3, x: 2}), (("x", (0, 0)), {}), (("a", (0, 0)), {}), (("a", (0, 0)), {})]
        self.assertEqual([None, "a", None, False], self.conflicts(Linkage(project, rows)))
        rows = [(None, {A: 3, B: 1}), (("b", (0, 0)), {A: 3, x: 2}), (("x", (0, 0)), {}), (("a", (0, 0)), {})]
        self.assertEqual([None, None, None, True], self.conflicts(Linkage(project, rows)))

    def test_locks(self):
        def locked(*locks):
            return self.conflicts(apart(Project(fonts(), [("font", (1, 0)), ("page", (1, 0))], locks=locks)))[2:]

        self.assertEqual([None, False], locked(((FONT,), (1, 0)), ((PAGE, FONT), (1, 1)), ((PAGE,), (1, 0))))
        self.assertEqual([((FONT,), (1, 1)), False], locked(((FONT,), (1, 1))))
        self.assertEqual([((FONT,), (1, 1)), False], locked(((PAGE,), (1, 1)), ((FONT,), (1, 1))))
        self.assertEqual([((PAGE,), (1, 1)), False], locked(((PAGE,), (1, 1)), ((FONT,), (1, 0)), ((SITE,), (1, 0))))
        self.assertEqual([None, False], locked(((SITE, PAGE, FONT), (1, 1)), ((SITE,), (1, 0)), ((FONT, FONT), (1, 1))))
        project = Project(fonts(), [("font", (1, 0)), ("page", (1, 0))], locks=[((PAGE,), (1, 1))])
        self.assertEqual([None, None, ((PAGE,), (1, 1)), False], self.conflicts(shared(project)))
        project = Project(fonts(), [("font", (1, 0)), ("page", (1, 0))], locks=[((PAGE, FONT), (1, 1)), ((FONT,), (1, 1))])
        self.assertEqual([None, None, None, True], self.conflicts(shared(project)))

    def test_two_conflicts_at_once(self):
        registry = Registry.read("package a sole\nrelease a 0.0\nrelease a 0.1\npackage b\nrelease b 0.0 a/0.0+\n")
        project = Project(registry, [("a", (0, 0)), ("b", (0, 0))], locks=[((A,), (0, 1))])
        linkage = Linkage(project, [(None, {A: 1, B: 2}), (("a", (0, 0)), {}), (("b", (0, 0)), {A: 3}), (("a", (0, 1)), {})])
        self.assertEqual([((), A), "a", ((A,), (0, 1)), False], self.conflicts(linkage))


class UnknownPathTest(ErrorCase):
    def test_values_that_are_no_paths_of_the_linkage(self):
        linkage = apart()
        values = [[], [FONT], (SITE,), (FONT, FONT), (("font", True),), (PAGE, ("font", True)), ((PAGE, FONT),), "font/1"]
        for value in values + odd_values():
            for call in [linkage.first_path, linkage.release, linkage.links, linkage.seen]:
                self.assert_fails(UnknownPath, {"value": value}, call, value)
                self.assert_fails(UnknownPath, {"value": value}, call, path=value)
            self.assert_fails(UnknownPath, {"value": value}, linkage.are_copies, value, (FONT,))
            self.assert_fails(UnknownPath, {"value": value}, linkage.are_copies, (FONT,), value)
            self.assert_fails(UnknownPath, {"value": value}, linkage.are_copies, other=[0], path=value)

    def test_what_is_asked_changes_nothing(self):
        linkage = apart()
        before = whole(linkage)
        self.assert_fails(UnknownPath, {"value": (SITE,)}, linkage.release, (SITE,))
        self.assertEqual(before, whole(linkage))
        self.assertEqual(400, Linkage.MOST_COPIES)
        self.assertIs(bool, type(linkage.is_solution))


if __name__ == "__main__":
    unittest.main()
