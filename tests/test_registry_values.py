import unittest

from leastlinks.errors import InvalidFlag, InvalidName, NameTaken, TooMany
from leastlinks.registry import Registry
from tests.support import EqualToAll, ErrorCase, NoComparing, odd_values


class Library(Registry):
    """A class below Registry, as a library will be one."""


def published(rows, packages=(("a", False), ("b", True))):
    """A registry with these packages, and with releases in this sequence."""
    registry = Registry()
    for package, sole in packages:
        registry.declare(package, sole=sole)
    for package, version, needs in rows:
        registry.publish(package, version, needs)
    return registry


ROWS = [("a", (0, 0), []), ("a", (1, 0), []), ("b", (0, 0), [("a", (0, 0), True), ("a", (1, 0), False)])]


class EqualityTest(unittest.TestCase):
    def assert_equal(self, one, other):
        self.assertIs(True, one == other)
        self.assertIs(True, other == one)
        self.assertIs(False, one != other)
        self.assertIs(False, other != one)

    def assert_unequal(self, one, other):
        self.assertIs(False, one == other)
        self.assertIs(False, other == one)
        self.assertIs(True, one != other)
        self.assertIs(True, other != one)

    def test_equal_registries(self):
        one = published(ROWS)
        self.assert_equal(one, one)
        self.assert_equal(one, published(ROWS))
        self.assert_equal(one, one.clone())
        self.assert_equal(Registry(), Registry())
        self.assert_equal(Registry.of(a=True), Registry.of(a=True))

    def test_the_sequence_of_the_releases_has_no_meaning(self):
        self.assert_equal(published(ROWS), published([ROWS[1], ROWS[0], ROWS[2]]))
        needs = ROWS[2][2][::-1]
        self.assert_equal(published(ROWS), published([ROWS[1], ROWS[0], ("b", (0, 0), tuple(needs))]))
        late = Registry.of(a=False)
        late.publish("a", (1, 0))
        late.publish("a", (0, 0))
        late.declare("b", sole=True)
        late.publish("b", (0, 0), needs)
        self.assert_equal(published(ROWS), late)

    def test_a_difference_at_one_place(self):
        one = published(ROWS)
        others = [
            Registry(), published([]), published(ROWS[:2]), published(ROWS[:1]),
            published(ROWS + [("a", (0, 1), [])]),
            published(ROWS[:2], (("a", False), ("b", False))),
            published(ROWS, (("a", False), ("b", False))), published(ROWS, (("a", True), ("b", True))),
            published(ROWS, (("a", False), ("b", True), ("c", False))),
            published(ROWS, (("c", False), ("a", False), ("b", True))),
            published(ROWS[:2] + [("b", (0, 1), ROWS[2][2])]), published(ROWS[:2] + [("b", (1, 0), ROWS[2][2])]),
            published(ROWS[:2] + [("b", (0, 0), [])]), published(ROWS[:2] + [("b", (0, 0), ROWS[2][2][:1])]),
            published(ROWS[:2] + [("b", (0, 0), [("a", (0, 0), False), ("a", (1, 0), False)])]),
            published(ROWS[:2] + [("b", (0, 0), [("a", (0, 0), True), ("a", (1, 0), True)])]),
        ]
        for other in others:
            self.assert_unequal(one, other)
        self.assert_unequal(Registry.of(a=False, b=False), Registry.of(b=False, a=False))

    def test_other_values(self):
        one = published(ROWS)
        for value in odd_values() + [str(one), repr(one), one.packages(), list(one.releases()), [one], Registry, EqualToAll]:
            if not isinstance(value, (EqualToAll, NoComparing)):
                self.assert_unequal(one, value)
                self.assert_unequal(Registry(), value)
        # Values with a comparison of their own are not asked.
        self.assertEqual([False, True], [one == EqualToAll(), one != EqualToAll()])
        self.assertEqual([False, True], [one == NoComparing(), one != NoComparing()])

    def test_a_class_of_the_same_name(self):
        for value in [type("Registry", (), {}), type("Registry", (), {})(), type("Registry", (list,), {})()]:
            self.assertEqual([False, True], [Registry() == value, Registry() != value])

    def test_a_library_is_not_equal_to_a_registry(self):
        self.assert_unequal(Registry(), Library())
        library = Library()
        library.declare("a")
        library.publish("a", (0, 0))
        registry = Registry.of(a=False)
        registry.publish("a", (0, 0))
        self.assert_unequal(registry, library)
        self.assert_unequal(library.clone(), library)


class ShownTest(unittest.TestCase):
    def test_len_is_the_number_of_releases(self):
        self.assertEqual([0, 0, 3], [len(Registry()), len(Registry.of(a=False)), len(published(ROWS))])
        self.assertEqual(40, len(published([("a", (k, 0), []) for k in range(40)])))

    def test_repr(self):
        self.assertEqual("Registry([], 0)", repr(Registry()))
        self.assertEqual("Registry(['z', 'a'], 0)", repr(Registry.of(z=True, a=False)))
        self.assertEqual("Registry(['a', 'b'], 3)", repr(published(ROWS)))

    def test_class_values(self):
        self.assertEqual([10, 40, 6], [Registry.MOST_PACKAGES, Registry.MOST_RELEASES, Registry.MOST_NEEDS])
        self.assertEqual([10, 40, 6], [Registry().MOST_PACKAGES, Registry().MOST_RELEASES, Registry().MOST_NEEDS])


class OfTest(ErrorCase):
    def test_packages_in_the_order_of_the_keywords(self):
        registry = Registry.of(b=True, a=False, self=True, sole=False, package=False)
        self.assertIs(Registry, type(registry))
        self.assertEqual(["b", "a", "self", "sole", "package"], registry.packages())
        self.assertEqual([True, False, True, False, False], [registry.is_sole(package) for package in registry.packages()])
        self.assertEqual(0, len(registry))
        self.assertEqual(Registry(), Registry.of())

    def test_the_same_as_declared(self):
        declared = Registry()
        declared.declare("a")
        declared.declare("b", sole=True)
        self.assertEqual(declared, Registry.of(a=False, b=True))

    def test_errors_as_of_declare(self):
        self.assert_fails(InvalidName, {"value": "A"}, Registry.of, A=False)
        self.assert_fails(InvalidName, {"value": "a_b"}, Registry.of, a=True, a_b=True)
        self.assert_fails(InvalidName, {"value": "abcdefghi"}, Registry.of, abcdefghi=1)
        self.assert_fails(InvalidFlag, {"value": 1}, Registry.of, a=1)
        self.assert_fails(InvalidFlag, {"value": None}, Registry.of, a=True, b=None, C=True)
        self.assert_fails(InvalidName, {"value": "C"}, Registry.of, a=True, C=None, b=None)
        self.assert_fails(TooMany, {"kind": "packages", "limit": 10}, Registry.of, **{name: False for name in "abcdefghijk"})
        self.assertEqual(list("jihgfedcba"), Registry.of(**{name: False for name in "jihgfedcba"}).packages())

    def test_a_registry_of_keywords_goes_on(self):
        registry = Registry.of(a=False)
        registry.declare("b")
        self.assert_refused(registry, NameTaken, {"value": "a"}, registry.declare, "a")
        self.assertEqual(["a", "b"], registry.packages())
        self.assertEqual(["a"], Registry.of(a=False).packages())

    def test_positions_are_not_taken(self):
        with self.assertRaises(TypeError):
            Registry.of("a")


if __name__ == "__main__":
    unittest.main()
