import random
import unittest

from leastlinks.comparing import are_joinable, changes, is_below, joined
from leastlinks.errors import Clash, TooMany, UnknownPath
from leastlinks.linkages import Linkage
from leastlinks.projects import Project
from leastlinks.registry import Registry
from leastlinks.resolving import resolve
from tests.drawing import all_linkages, crowded_project, drawn_needs, drawn_project, drawn_registry, is_below_by_the_words, told
from tests.support import ErrorCase, odd_values

F, P, S = ("font", 1), ("page", 1), ("site", 1)
FONT, NEW, PAGE, SITE = ("font", (1, 0)), ("font", (1, 1)), ("page", (1, 0)), ("site", (1, 0))


def hidden():
    """The registry of the document's examples, in which all needs are hidden."""
    registry = Registry.of(font=False, page=False, site=False)
    registry.publish("font", (1, 0))
    registry.publish("font", (1, 1))
    registry.publish("page", (1, 0), [("font", (1, 0), False)])
    registry.publish("page", (1, 1), [("font", (1, 0), False)])
    registry.publish("site", (1, 0), [("font", (1, 0), False), ("page", (1, 0), False)])
    return registry


def linked(rows, needs=(("page", (1, 0)), ("site", (1, 0)))):
    """A linkage over this registry."""
    return Linkage(Project(hidden(), needs), rows)


def apart(first=FONT, second=FONT, third=FONT):
    """A linkage without shared copies: the font of the page, that of the site, and that of the page of the site."""
    return linked([(None, {P: 1, S: 2}), (PAGE, {F: 3}), (SITE, {F: 4, P: 5}), (first, {}), (second, {}), (PAGE, {F: 6}), (third, {})])


def small_linkages(seed, count, most=40, **settings):
    """Lists of all linkages of drawn projects."""
    chance = random.Random(seed)
    for _ in range(count):
        yield all_linkages(drawn_project(chance, **settings), most) or []


def joinable_by_the_words(linkage, path, other):
    """Whether two paths lead to joinable copies, going down all links."""
    if linkage.are_copies(path, other):
        return True
    links = linkage.links(path)
    if linkage.release(path) != linkage.release(other) or () in (path, other):
        return False
    return all(joinable_by_the_words(linkage, path + (label,), other + (label,)) for label in links)


def changes_by_the_words(old, new):
    """The changes as the document lists them."""
    olds, news = old.copies()[1:], new.copies()[1:]
    rows = [[], [], [], [], []]
    for path in olds:
        if not new.has_path(path):
            rows[0].append(("gone", path))
        elif old.release(path)[1] != new.release(path)[1]:
            rows[2].append(("release", path, old.release(path)[1], new.release(path)[1]))
    rows[1] = [("new", path) for path in news if not old.has_path(path)]
    for at, word, paths, linkage in [(3, "joined", olds, new), (4, "parted", news, old)]:
        for other in paths:
            here = [path for path in paths if path < other and linkage.has_path(path) and linkage.has_path(other)]
            same = [path for path in here if linkage.are_copies(path, other)]
            if same:
                rows[at].append((word, min(same), other))
    return [row for kind in rows for row in sorted(kind)]


class JoinableTest(ErrorCase):
    def test_equal_copies(self):
        linkage = apart()
        for path in linkage.paths():
            self.assertIs(True, are_joinable(linkage, path, path))
        self.assertIs(True, are_joinable(linked([(None, {})], ()), (), ()))
        shared = linked([(None, {P: 1, S: 2}), (PAGE, {F: 3}), (SITE, {F: 3, P: 1}), (FONT, {})])
        self.assertIs(True, are_joinable(shared, (P,), (S, P)))

    def test_packages_versions_and_links(self):
        linkage = apart()
        self.assertEqual([True, True, True, False, False], [are_joinable(linkage, path, other) for path, other in [
            ((P,), (S, P)), ((P, F), (S, P, F)), ((P, F), (S, F)), ((P,), (S,)), ((), (P,))]])
        other = apart(third=NEW)
        self.assertEqual([False, False, True], [are_joinable(other, path, far) for path, far in [
            ((P,), (S, P)), ((P, F), (S, P, F)), ((P, F), (S, F))]])
        self.assertIs(True, are_joinable(other=(S, F), path=(P, F), linkage=other))

    def test_two_generations_are_not_joinable(self):
        registry = Registry.of(a=False)
        registry.publish("a", (0, 0))
        registry.publish("a", (1, 0))
        linkage = resolve(Project(registry, [("a", (0, 0)), ("a", (1, 0))]))
        self.assertIs(False, are_joinable(linkage, (("a", 0),), (("a", 1),)))
        self.assertEqual(2, len(joined(linkage)))

    def test_values_that_are_no_paths(self):
        linkage = apart()
        for value in [(F,), [P], (("page", True),), (P, ("font", True)), "page/1", ((P,),), (S, S)] + odd_values():
            self.assert_fails(UnknownPath, {"value": value}, are_joinable, linkage, value, (P,))
            self.assert_fails(UnknownPath, {"value": value}, are_joinable, linkage, (P,), value)
            self.assert_fails(UnknownPath, {"value": value}, are_joinable, linkage, value, (F, F))

    def test_drawn_linkages_by_the_words_of_the_document(self):
        for linkages in small_linkages(41, 80):
            for linkage in linkages:
                for path in linkage.copies():
                    for other in linkage.copies():
                        self.assertIs(joinable_by_the_words(linkage, path, other), are_joinable(linkage, path, other))


class JoinedTest(ErrorCase):
    def test_the_joined_linkage(self):
        linkage = apart()
        self.assertEqual([(), (P,), (P, F), (S,)], joined(linkage).copies())
        self.assertEqual([3, 6, linkage.project()], [len(joined(linkage)), len(linkage), joined(linkage).project()])
        self.assertEqual([(), (P,), (P, F), (S,), (S, P), (S, P, F)], joined(apart(third=NEW)).copies())
        self.assertEqual(0, len(joined(linkage=linked([(None, {})], ()))))

    def test_a_large_linkage(self):
        # Copies are joined whatever their places: there are as many as releases.
        self.assertEqual(20, len(joined(resolve(crowded_project(400)))))

    def test_the_fewest_copies_with_the_same_paths_and_releases(self):
        count = 0
        for linkages in small_linkages(42, 150):
            for linkage in linkages:
                alike = [each for each in linkages if [row[:2] for row in told(each)] == [row[:2] for row in told(linkage)]]
                self.assertEqual(min(len(each) for each in alike), len(joined(linkage)))
                self.assertIn(joined(linkage), alike)
                self.assertTrue(is_below_by_the_words(linkage, joined(linkage)))
                self.assertEqual(joined(linkage), joined(joined(linkage)))
                if linkage.is_solution:
                    count += 1
                    self.assertIs(True, joined(linkage).is_solution)
        self.assertGreater(count, 150)


class BelowTest(ErrorCase):
    def test_more_copies_are_below_fewer(self):
        self.assertEqual([True, False, True], [is_below(apart(), joined(apart())), is_below(joined(apart()), apart()),
                                               is_below(other=apart(), one=apart())])

    def test_smaller_steps_are_below_greater_ones(self):
        self.assertEqual([True, False, False, False], [
            is_below(apart(), apart(third=NEW)), is_below(apart(third=NEW), apart()),
            is_below(apart(third=NEW), apart(first=NEW)), is_below(apart(first=NEW), apart(third=NEW))])

    def test_fewer_paths_are_below_more(self):
        main = linked([(None, {})], ())
        page = linked([(None, {P: 1}), (PAGE, {F: 2}), (FONT, {})], [("page", (1, 0))])
        self.assertEqual([True, True, True, False, False], [is_below(main, page), is_below(page, apart()), is_below(main, apart()),
                                                            is_below(page, main), is_below(apart(), page)])
        other = linked([(None, {F: 1}), (FONT, {})], [("font", (1, 0))])
        self.assertEqual([False, False], [is_below(page, other), is_below(other, page)])

    def test_copies_that_part_further_down(self):
        shared = linked([(None, {P: 1, S: 2}), (PAGE, {F: 3}), (SITE, {F: 4, P: 1}), (FONT, {}), (FONT, {})])
        font = linked([(None, {P: 1, S: 2}), (PAGE, {F: 3}), (SITE, {F: 4, P: 5}), (FONT, {}), (FONT, {}), (PAGE, {F: 3})])
        self.assertEqual([True, False, True, False], [is_below(font, shared), is_below(shared, font), is_below(apart(), font),
                                                      is_below(font, apart())])

    def test_drawn_linkages_by_the_words_of_the_document(self):
        chance = random.Random(43)
        answers = {True: 0, False: 0}
        for _ in range(60):
            registry = drawn_registry(chance, releases=7)
            linkages = []
            for _ in range(2):
                linkages += all_linkages(Project(registry, drawn_needs(chance, registry)), 30) or []
            for one in linkages:
                for other in linkages:
                    right = is_below_by_the_words(one, other)
                    answers[right] += 1
                    self.assertIs(right, is_below(one, other))
        self.assertGreater(min(answers.values()), 500)

    def test_resolutions_are_below_all_solutions(self):
        for linkages in small_linkages(44, 60):
            for linkage in linkages:
                if linkage.is_solution:
                    self.assertIs(True, is_below(resolve(linkage.project()), linkage))


class ChangesTest(ErrorCase):
    def test_none(self):
        self.assertEqual([[], []], [changes(apart(), apart()), changes(new=joined(apart()), old=joined(apart()))])

    def test_gone_and_new(self):
        main = linked([(None, {})], ())
        paths = [(P,), (P, F), (S,), (S, F), (S, P), (S, P, F)]
        self.assertEqual([("new", path) for path in paths], changes(main, apart()))
        self.assertEqual([("gone", path) for path in paths], changes(apart(), main))
        # Only first paths are told of.
        self.assertEqual([("new", path) for path in paths[:3]], changes(main, joined(apart())))

    def test_releases(self):
        self.assertEqual([("release", (S, P, F), (1, 0), (1, 1))], changes(apart(), apart(third=NEW)))
        self.assertEqual([("release", (P, F), (1, 1), (1, 0)), ("release", (S, P, F), (1, 0), (1, 1))],
                         changes(apart(first=NEW), apart(third=NEW)))

    def test_joined_and_parted(self):
        pairs = [((P,), (S, P)), ((P, F), (S, F)), ((P, F), (S, P, F))]
        self.assertEqual([("joined", path, other) for path, other in pairs], changes(apart(), joined(apart())))
        self.assertEqual([("parted", path, other) for path, other in pairs], changes(joined(apart()), apart()))

    def test_all_kinds_at_once(self):
        needs = (("font", (1, 0)), ("page", (1, 0)), ("site", (1, 0)))
        old = linked([(None, {P: 1, S: 2}), (PAGE, {F: 3}), (SITE, {F: 4, P: 1}), (FONT, {}), (FONT, {})])
        new = linked([(None, {F: 1, P: 2, S: 3}), (NEW, {}), (("page", (1, 1)), {F: 1}), (SITE, {F: 1, P: 4}), (PAGE, {F: 5}), (FONT, {})],
                     needs)
        self.assertEqual([
            ("new", (F,)), ("release", (P,), (1, 0), (1, 1)), ("release", (P, F), (1, 0), (1, 1)),
            ("release", (S, F), (1, 0), (1, 1)), ("joined", (P, F), (S, F)), ("parted", (P,), (S, P))], changes(old, new))
        self.assertEqual([
            ("gone", (F,)), ("release", (P,), (1, 1), (1, 0)), ("joined", (P,), (S, P)), ("parted", (P, F), (S, F)),
        ], changes(new, old))

    def test_a_copy_that_is_gone_is_not_joined(self):
        page = linked([(None, {P: 1}), (PAGE, {F: 2}), (FONT, {})], [("page", (1, 0))])
        self.assertEqual([("gone", (S,)), ("gone", (S, F)), ("gone", (S, P)), ("gone", (S, P, F))], changes(apart(), page))

    def test_the_first_of_three(self):
        one = linked([(None, {P: 1, S: 2}), (PAGE, {F: 3}), (SITE, {F: 3, P: 4}), (FONT, {}), (PAGE, {F: 3})])
        self.assertEqual([("joined", (P, F), (S, F)), ("joined", (P, F), (S, P, F))], changes(apart(), one))
        self.assertEqual([("parted", (P, F), (S, F)), ("parted", (P, F), (S, P, F))], changes(one, apart()))

    def test_drawn_linkages_by_the_words_of_the_document(self):
        chance = random.Random(45)
        words = {}
        for _ in range(60):
            registry = drawn_registry(chance, releases=7)
            linkages = []
            for _ in range(2):
                linkages += (all_linkages(Project(registry, drawn_needs(chance, registry)), 30) or [])[:12]
            for old in linkages:
                for new in linkages:
                    found = changes(old, new)
                    self.assertEqual(changes_by_the_words(old, new), found)
                    for change in found:
                        words[change[0]] = words.get(change[0], 0) + 1
        self.assertEqual(["gone", "joined", "new", "parted", "release"], sorted(words))

    def test_what_is_returned_is_new(self):
        old, new = apart(), joined(apart())
        first = changes(old, new)
        again = list(first)
        first.clear()
        self.assertEqual(again, changes(old, new))
        self.assertEqual([6, 3], [len(old), len(new)])

    def test_edits_of_a_project(self):
        chance = random.Random(46)
        for _ in range(40):
            registry = drawn_registry(chance, releases=10)
            projects = [Project(registry, drawn_needs(chance, registry)) for _ in range(2)]
            try:
                old, new = [resolve(project) for project in projects]
            except (Clash, TooMany):
                continue
            self.assertEqual(changes_by_the_words(old, new), changes(old, new))


if __name__ == "__main__":
    unittest.main()
