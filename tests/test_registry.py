import collections
import unittest

from leastlinks.errors import InvalidFlag, InvalidName, InvalidNeeds, InvalidVersion, NameTaken, NotEarlier, NotGrowing
from leastlinks.errors import NotRising, TooMany, UnknownPackage, UnknownRelease
from leastlinks.registry import Registry
from tests.support import ErrorCase, everything, odd_values, without_kind

Version = collections.namedtuple("Version", "generation step")
Need = collections.namedtuple("Need", "package version is_shown")
WRONG_VERSIONS = [None, "0.0", [0, 0], (0,), (0, 0, 0), (0, -1), (-1, 0), (0, True), (False, 0), (0, "0"), (), {}, b""]


def letters(count):
    """So many names of packages."""
    return list("abcdefghijklm"[:count])


def chained():
    """A registry with the packages a, b and c, the releases 0.0, 0.1 and 1.0 of a, and 0.0 of b."""
    registry = Registry.of(a=False, b=False, c=False)
    for version in [(0, 0), (0, 1), (1, 0)]:
        registry.publish("a", version)
    registry.publish("b", (0, 0), [("a", (0, 0), False), ("a", (1, 0), True)])
    return registry


def wide(count):
    """A registry whose package a has so many generations, and whose package b has no release."""
    registry = Registry.of(a=False, b=False)
    for generation in range(count):
        registry.publish("a", (generation, 0))
    return registry


def needs_of_a(count):
    """So many shown needs of generations of a."""
    return [("a", (generation, 0), True) for generation in range(count)]


class DeclareTest(ErrorCase):
    def test_packages_in_sequence(self):
        registry = Registry()
        self.assertEqual([], registry.packages())
        self.assertIsNone(registry.declare("text"))
        self.assertIsNone(registry.declare("list", sole=True))
        self.assertIsNone(registry.declare("abcdefgh", sole=False))
        self.assertIsNone(registry.declare(package="a"))
        self.assertEqual(["text", "list", "abcdefgh", "a"], registry.packages())
        self.assertEqual([False, True, False, False], [registry.is_sole(package) for package in registry.packages()])
        self.assertEqual(0, len(registry))

    def test_sole_is_passed_by_name(self):
        with self.assertRaises(TypeError):
            Registry().declare("a", True)

    def test_values_that_are_no_names(self):
        registry = chained()
        for value in odd_values() + ["A", "abcdefghi", ""]:
            self.assert_refused(registry, InvalidName, {"value": value}, registry.declare, value)

    def test_values_that_are_no_flags(self):
        registry = chained()
        for value in without_kind(odd_values(), bool) + [0, 1, "sole", None, []]:
            self.assert_refused(registry, InvalidFlag, {"value": value}, registry.declare, "d", sole=value)

    def test_names_that_are_taken(self):
        registry = chained()
        for name in ["a", "b", "c"]:
            for sole in [True, False]:
                self.assert_refused(registry, NameTaken, {"value": name}, registry.declare, name, sole=sole)

    def test_the_tenth_and_the_eleventh_package(self):
        registry = Registry()
        for name in letters(10):
            self.assertIsNone(registry.declare(name))
        self.assertEqual(letters(10), registry.packages())
        told = {"kind": "packages", "limit": 10}
        self.assert_refused(registry, TooMany, told, registry.declare, "k")
        self.assert_refused(registry, TooMany, told, registry.declare, "k", sole=True)

    def test_of_two_errors_the_one_listed_first(self):
        registry = Registry.of(**{name: False for name in letters(10)})
        self.assert_refused(registry, InvalidName, {"value": "A"}, registry.declare, "A", sole=0)
        self.assert_refused(registry, InvalidFlag, {"value": 0}, registry.declare, "a", sole=0)
        self.assert_refused(registry, NameTaken, {"value": "a"}, registry.declare, "a")
        self.assert_refused(registry, InvalidName, {"value": True}, registry.declare, True)
        self.assert_refused(registry, InvalidFlag, {"value": 1}, registry.declare, "k", sole=1)


class PublishTest(ErrorCase):
    def test_releases_and_needs(self):
        registry = Registry.of(a=False, b=False, c=False)
        self.assertIsNone(registry.publish("a", (0, 0)))
        self.assertIsNone(registry.publish("a", (1, 0), []))
        self.assertIsNone(registry.publish(needs=(("a", (0, 0), True),), version=(3, 7), package="b"))
        self.assertIsNone(registry.publish("c", (0, 0), [("b", (3, 7), False), ("a", (1, 0), True)]))
        self.assertEqual([("a", (1, 0), True), ("b", (3, 7), False)], registry.needs("c", (0, 0)))
        self.assertEqual([("a", (0, 0), True)], registry.needs("b", (3, 7)))
        self.assertEqual([], registry.needs("a", (0, 0)))
        self.assertEqual(4, len(registry))

    def test_needs_are_listed_by_their_labels(self):
        registry = Registry.of(b=False, a=False, z=False)
        for version in [(10, 0), (2, 5)]:
            registry.publish("a", version)
            registry.publish("b", version)
        needs = [("a", (2, 5), True), ("a", (10, 0), False), ("b", (2, 5), False), ("b", (10, 0), True)]
        for step, at in enumerate([(0, 1, 2, 3), (3, 2, 1, 0), (2, 0, 3, 1)]):
            given = [needs[k] for k in at]
            registry.publish("z", (step, 0), given)
            registry.publish("z", (step, 1), tuple(given))
            self.assertEqual(needs, registry.needs("z", (step, 0)))
            self.assertEqual(needs, registry.needs("z", (step, 1)))
            self.assertEqual([needs[k] for k in at], given)

    def test_values_that_are_no_packages(self):
        registry = chained()
        for value in odd_values() + ["d", "abcdefgh", "A"]:
            self.assert_refused(registry, UnknownPackage, {"value": value}, registry.publish, value, (5, 5))

    def test_values_that_are_no_versions(self):
        registry = chained()
        for value in odd_values() + WRONG_VERSIONS:
            self.assert_refused(registry, InvalidVersion, {"value": value}, registry.publish, "a", value)

    def test_needs_that_are_no_list_and_no_tuple(self):
        registry = chained()
        need = ("a", (0, 0), True)
        values = without_kind(without_kind(odd_values(), list), tuple)
        for value in values + [{need: True}, {need}, iter([need]), "", None, (n for n in [need])]:
            self.assert_refused(registry, InvalidNeeds, {"position": None}, registry.publish, "c", (0, 0), value)

    def test_elements_that_are_no_needs(self):
        registry = chained()
        good = ("a", (0, 0), True)
        wrong = odd_values() + [
            ("a", (0, 0)), ("a", (0, 0), True, True), ["a", (0, 0), True], ("a", [0, 0], True), ("a", (0, 0), 1),
            ("a", (0, 0), 0), ("a", (0, 0), None), ("a", (0, True), True), ("a", (False, 0), True), ("A", (0, 0), True),
            ("a", "0.0", True), ("a", (0, -1), True), (("a", 0), 0, True), ("a", (0,), True), ("abcdefghi", (0, 0), True),
            (True, (0, 0), True), ("a", (0, 0), "shown"), ("a", (0, 0), []),
        ]
        for value in wrong:
            self.assert_refused(registry, InvalidNeeds, {"position": 0}, registry.publish, "c", (0, 0), [value])
            self.assert_refused(registry, InvalidNeeds, {"position": 0}, registry.publish, "c", (0, 0), (value, good))
            self.assert_refused(registry, InvalidNeeds, {"position": 1}, registry.publish, "c", (0, 0), (good, value, value))

    def test_needs_with_the_label_of_an_earlier_one(self):
        registry = chained()
        needs = [("a", (0, 0), True), ("a", (1, 0), True), ("a", (0, 1), False), ("a", (1, 0), True), None]
        self.assert_refused(registry, InvalidNeeds, {"position": 2}, registry.publish, "c", (0, 0), needs)
        self.assert_refused(registry, InvalidNeeds, {"position": 1}, registry.publish, "c", (0, 0), needs[:1] * 2)
        self.assert_refused(registry, InvalidNeeds, {"position": 2}, registry.publish, "c", (0, 0), needs[1:])
        self.assert_refused(registry, InvalidNeeds, {"position": 1}, registry.publish, "c", (0, 0), needs[:1] + needs[-1:])

    def test_the_sixth_and_the_seventh_need(self):
        registry = wide(7)
        self.assertIsNone(registry.publish("b", (0, 0), needs_of_a(6)))
        self.assertEqual(needs_of_a(6), registry.needs("b", (0, 0)))
        told = {"kind": "needs", "limit": 6}
        self.assert_refused(registry, TooMany, told, registry.publish, "b", (1, 0), needs_of_a(7))
        self.assert_refused(registry, TooMany, told, registry.publish, "b", (1, 0), tuple(needs_of_a(7)))

    def test_needs_of_packages_that_were_not_declared_before(self):
        registry = chained()
        for used in ["b", "c", "d", "abcdefgh"]:
            told = {"user": "b", "used": used}
            self.assert_refused(registry, NotEarlier, told, registry.publish, "b", (5, 0), [(used, (0, 0), True)])
        told = {"user": "a", "used": "a"}
        self.assert_refused(registry, NotEarlier, told, registry.publish, "a", (5, 0), [("a", (0, 0), True)])

    def test_needs_of_releases_that_are_not_there(self):
        registry = chained()
        for version in [(0, 2), (1, 1), (2, 0), (10 ** 29, 0)]:
            told = {"package": "a", "version": version}
            self.assert_refused(registry, UnknownRelease, told, registry.publish, "b", (5, 0), [("a", version, False)])

    def test_the_first_need_in_the_given_sequence_decides(self):
        registry = chained()
        good, late, lost = ("a", (1, 0), True), ("c", (0, 0), True), ("a", (0, 7), True)
        not_earlier = (NotEarlier, {"user": "b", "used": "c"})
        unknown = (UnknownRelease, {"package": "a", "version": (0, 7)})
        for needs, (error, told) in [([late, lost], not_earlier), ([lost, late], unknown), ([good, late, lost], not_earlier),
                                     ([good, lost, late], unknown), ((lost, late, good), unknown)]:
            self.assert_refused(registry, error, told, registry.publish, "b", (5, 0), needs)

    def test_steps_rise_within_a_generation(self):
        registry = Registry.of(a=False)
        registry.publish("a", (1, 5))
        for version in [(1, 5), (1, 4), (1, 0)]:
            told = {"package": "a", "version": version}
            self.assert_refused(registry, NotRising, told, registry.publish, "a", version)
        # Other generations go on by themselves, in any sequence.
        for version in [(0, 9), (2, 0), (1, 6), (1, 10), (2, 7), (0, 10)]:
            self.assertIsNone(registry.publish("a", version))
        self.assertEqual([(0, 9), (0, 10), (1, 5), (1, 6), (1, 10), (2, 0), (2, 7)], registry.versions("a"))
        told = {"package": "a", "version": (1, 7)}
        self.assert_refused(registry, NotRising, told, registry.publish, "a", (1, 7))

    def test_steps_are_of_one_package(self):
        registry = Registry.of(a=False, b=False)
        registry.publish("a", (0, 5))
        self.assertIsNone(registry.publish("b", (0, 0)))
        self.assertIsNone(registry.publish("b", (0, 5)))

    def test_of_two_errors_the_one_listed_first(self):
        registry = wide(40 - 1)
        registry.publish("b", (0, 5), [("a", (0, 0), True)])
        seven, lost, late = needs_of_a(7), [("a", (99, 0), True)], [("b", (0, 5), True)]
        rows = [
            (UnknownPackage, {"value": "c"}, "c", None, None),
            (InvalidVersion, {"value": (0, True)}, "b", (0, True), None),
            (InvalidVersion, {"value": None}, "b", None, seven + [None]),
            (InvalidNeeds, {"position": None}, "b", (0, 5), None),
            (InvalidNeeds, {"position": 7}, "b", (0, 5), seven + [None]),
            (InvalidNeeds, {"position": 7}, "b", (0, 5), seven + seven[:1]),
            (InvalidNeeds, {"position": 1}, "b", (0, 5), late + [None]),
            (TooMany, {"kind": "needs", "limit": 6}, "b", (0, 5), late + seven),
            (TooMany, {"kind": "needs", "limit": 6}, "b", (0, 5), lost + seven),
            (NotEarlier, {"user": "b", "used": "b"}, "b", (0, 5), late + lost),
            (UnknownRelease, {"package": "a", "version": (99, 0)}, "b", (0, 5), lost),
            (NotRising, {"package": "b", "version": (0, 5)}, "b", (0, 5), []),
            (NotGrowing, {"label": ("a", 0)}, "b", (0, 6), []),
            (TooMany, {"kind": "releases", "limit": 40}, "b", (0, 6), seven[:1]),
        ]
        for error, told, package, version, needs in rows:
            self.assert_refused(registry, error, told, registry.publish, package, version, needs)

    def test_the_fortieth_and_the_forty_first_release(self):
        registry = wide(39)
        self.assertIsNone(registry.publish("b", (0, 0)))
        self.assertEqual(40, len(registry))
        told = {"kind": "releases", "limit": 40}
        self.assert_refused(registry, TooMany, told, registry.publish, "b", (0, 1))
        self.assert_refused(registry, TooMany, told, registry.publish, "a", (0, 1), ())
        self.assertIsNone(registry.declare("c"))
        self.assert_refused(registry, TooMany, told, registry.publish, "c", (0, 0))

    def test_versions_of_many_digits(self):
        registry = Registry.of(a=False, b=True)
        large = 10 ** 29
        registry.publish("a", (large, large))
        registry.publish("b", (0, large + 1), [("a", (large, large), True)])
        self.assertEqual([(large, large)], registry.versions("a"))
        self.assertEqual(registry, Registry.read(str(registry)))

    def test_tuples_of_other_classes(self):
        registry = Registry.of(a=False, b=False)
        registry.publish("a", Version(1, 0))
        registry.publish("b", Version(0, 0), [Need("a", Version(1, 0), True)])
        self.assertEqual("[(1, 0)] [('a', (1, 0), True)]", f"{registry.versions('a')!r} {registry.needs('b', (0, 0))!r}")


class KeepingTest(ErrorCase):
    """Each release keeps the needs of the release of its label that was published before it."""

    def setUp(self):
        self.registry = Registry.of(a=False, b=False, c=False)
        for version in [(0, 0), (0, 1), (0, 2), (1, 0), (2, 0)]:
            self.registry.publish("a", version)
        self.registry.publish("b", (0, 0))
        self.registry.publish("b", (0, 1))
        self.old = [("a", (0, 1), False), ("a", (1, 0), True), ("b", (0, 1), True)]
        self.registry.publish("c", (1, 1), self.old)

    def refused(self, needs, label, version=(1, 2)):
        self.assert_refused(self.registry, NotGrowing, {"label": label}, self.registry.publish, "c", version, needs)

    def test_needs_that_keep_the_old_ones(self):
        rows = [
            self.old, self.old[::-1],
            [("a", (0, 2), False), ("a", (1, 0), True), ("b", (0, 1), True)],
            [("a", (0, 1), True), ("a", (1, 0), True), ("b", (0, 1), True)],
            [("a", (0, 2), True), ("a", (1, 0), True), ("b", (0, 1), True)],
            self.old + [("a", (2, 0), False)],
        ]
        for needs in rows:
            registry = self.registry.clone()
            self.assertIsNone(registry.publish("c", (1, 2), needs))
            self.assertEqual(sorted(needs), registry.needs("c", (1, 2)))

    def test_a_need_that_is_dropped(self):
        self.refused([], ("a", 0))
        self.refused(self.old[1:], ("a", 0))
        self.refused(self.old[:1] + self.old[2:], ("a", 1))
        self.refused(self.old[:2], ("b", 0))
        self.refused([("a", (2, 0), True), self.old[1], self.old[2]], ("a", 0))

    def test_a_step_that_is_lowered(self):
        self.refused([("a", (0, 0), True)] + self.old[1:], ("a", 0))
        self.refused(self.old[:2] + [("b", (0, 0), True)], ("b", 0))

    def test_a_shown_need_that_is_hidden(self):
        self.refused([self.old[0], ("a", (1, 0), False), self.old[2]], ("a", 1))
        self.refused(self.old[:2] + [("b", (0, 1), False)], ("b", 0))

    def test_the_first_need_as_listed_decides(self):
        self.refused([("b", (0, 0), True), ("a", (1, 0), False), ("a", (0, 0), False)], ("a", 0))
        self.refused([("b", (0, 0), True), ("a", (1, 0), False), ("a", (0, 1), False)], ("a", 1))

    def test_other_generations_and_packages_keep_nothing(self):
        self.assertIsNone(self.registry.publish("c", (0, 0)))
        self.assertIsNone(self.registry.publish("c", (2, 2), [("a", (0, 0), False)]))
        self.assertIsNone(self.registry.publish("b", (0, 2)))
        self.refused([("a", (2, 0), False)], ("a", 0), version=(2, 3))
        self.assertIsNone(self.registry.publish("c", (0, 1), [("a", (2, 0), True)]))

    def test_the_release_before_counts_not_the_first_one(self):
        grown = self.old + [("a", (2, 0), True)]
        self.registry.publish("c", (1, 3), grown)
        self.refused(self.old, ("a", 2), version=(1, 4))
        self.assertIsNone(self.registry.publish("c", (1, 4), grown))


class QuestionsTest(ErrorCase):
    def test_packages_and_versions(self):
        registry = chained()
        self.assertEqual(["a", "b", "c"], registry.packages())
        self.assertEqual([[(0, 0), (0, 1), (1, 0)], [(0, 0)], []], [registry.versions(package) for package in "abc"])
        self.assertEqual([(0, 0)], registry.versions(package="b"))
        self.assertIs(False, registry.is_sole(package="b"))

    def test_versions_are_sorted_as_numbers(self):
        registry = Registry.of(a=False)
        for version in [(10, 0), (9, 10), (9, 11), (0, 2), (9, 100)]:
            registry.publish("a", version)
        self.assertEqual([(0, 2), (9, 10), (9, 11), (9, 100), (10, 0)], registry.versions("a"))

    def test_values_that_are_no_packages(self):
        registry = chained()
        for value in odd_values() + ["d", "text"]:
            self.assert_fails(UnknownPackage, {"value": value}, registry.is_sole, value)
            self.assert_fails(UnknownPackage, {"value": value}, registry.versions, value)
            self.assertIs(False, registry.has_package(value))

    def test_has_package(self):
        self.assertIs(True, chained().has_package("a"))
        self.assertIs(True, chained().has_package(value="c"))
        self.assertIs(False, Registry().has_package("a"))

    def test_has_label(self):
        registry = chained()
        for label in [("a", 0), ("a", 1), ("b", 0)]:
            self.assertIs(True, registry.has_label(label))
        for label in [("a", 2), ("b", 1), ("c", 0), ("d", 0), ("a", True), ("a", False), ("a", (0, 0)), ["a", 0], "a/0"]:
            self.assertIs(False, registry.has_label(label))
        for value in odd_values():
            self.assertIs(False, registry.has_label(value=value))

    def test_has_release(self):
        registry = chained()
        for package, version in [("a", (0, 0)), ("a", (0, 1)), ("a", (1, 0)), ("b", (0, 0))]:
            self.assertIs(True, registry.has_release(package, version))
        self.assertIs(True, registry.has_release(version=(0, 1), package="a"))
        for package, version in [("a", (0, 2)), ("a", (1, 1)), ("b", (1, 0)), ("c", (0, 0)), ("d", (0, 0)), ("a", (0, True)),
                                 ("a", (True, 0)), ("a", (False, False)), ("a", [0, 0]), ("a", "0.0"), (["a"], (0, 0))]:
            self.assertIs(False, registry.has_release(package, version))

    def test_any_two_values_that_are_no_release(self):
        registry = chained()
        pairs = [(value, (0, 0)) for value in odd_values()] + [("a", value) for value in odd_values()]
        pairs += [(value, value) for value in odd_values()] + [("a", (0, 2)), ("c", (0, 0)), ("a", (False, True))]
        for package, version in pairs:
            self.assertIs(False, registry.has_release(package, version))
            self.assert_fails(UnknownRelease, {"package": package, "version": version}, registry.needs, package, version)

    def test_needs_by_name(self):
        self.assertEqual([("a", (0, 0), False), ("a", (1, 0), True)], chained().needs(version=(0, 0), package="b"))

    def test_releases_by_packages_then_by_versions(self):
        registry = Registry.of(z=False, a=False, m=False)
        for package, version in [("a", (1, 0)), ("z", (10, 0)), ("a", (0, 3)), ("z", (9, 0)), ("a", (1, 1)), ("z", (9, 5))]:
            registry.publish(package, version)
        self.assertEqual([("z", (9, 0)), ("z", (9, 5)), ("z", (10, 0)), ("a", (0, 3)), ("a", (1, 0)), ("a", (1, 1))],
                         list(registry.releases()))
        self.assertEqual([], list(Registry.of(a=True).releases()))
        iteration = registry.releases()
        self.assertEqual(("z", (9, 0)), next(iteration))

    def test_the_same_answer_again(self):
        registry = chained()
        self.assertEqual(everything(registry), everything(registry))


class CopyingTest(unittest.TestCase):
    def test_arguments_are_not_changed_and_not_kept(self):
        registry = chained()
        needs = [("b", (0, 0), True), ("a", (1, 0), False)]
        registry.publish("c", (0, 0), needs)
        self.assertEqual([("b", (0, 0), True), ("a", (1, 0), False)], needs)
        before = everything(registry)
        needs.append(("a", (0, 0), True))
        needs.reverse()
        self.assertEqual(before, everything(registry))

    def test_returned_lists_are_new(self):
        registry = chained()
        before = everything(registry)
        for answer in [registry.packages, lambda: registry.versions("a"), lambda: registry.needs("b", (0, 0)),
                       lambda: registry.needs("a", (0, 0)), lambda: registry.versions("c")]:
            self.assertIsNot(answer(), answer())
            self.assertIs(list, type(answer()))
            answer().append(1)
            answer().clear()
            self.assertEqual(before, everything(registry))

    def test_a_clone_is_independent(self):
        for clone_changes in [True, False]:
            registry = chained()
            registry.declare("d", sole=True)
            clone = registry.clone()
            self.assertIs(Registry, type(clone))
            changed, kept = (clone, registry) if clone_changes else (registry, clone)
            before = everything(kept)
            self.assertEqual(before, everything(changed))
            changed.declare("e")
            changed.publish("a", (7, 0))
            changed.publish("c", (0, 0), [("a", (7, 0), True)])
            self.assertEqual(before, everything(kept))
            self.assertNotEqual(changed, kept)
            self.assertIs(False, kept.has_package("e"))
            kept.declare("e", sole=True)
            self.assertEqual([True, False], [kept.is_sole("e"), changed.is_sole("e")])
        self.assertEqual(Registry(), Registry().clone())

    def test_registries_are_independent(self):
        one, other = Registry(), Registry()
        one.declare("a", sole=True)
        one.publish("a", (0, 0))
        self.assertEqual([[], 0, False], [other.packages(), len(other), other.has_package("a")])


if __name__ == "__main__":
    unittest.main()
