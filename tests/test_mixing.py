import random
import unittest

from leastlinks.library import Library, main_kind
from leastlinks.linkages import Linkage
from leastlinks.mixing import is_mixing, mixing
from leastlinks.projects import Project
from leastlinks.registry import Registry
from leastlinks.resolving import resolve
from leastlinks.running import calls, stray_calls
from tests.coding import drawn_library, inks, with_counters
from tests.drawing import all_linkages, crowded_project, drawn_locks, drawn_needs, drawn_project, separate_rows
from tests.support import ErrorCase, odd_values

INK, PEN, BOX = ("ink", 1), ("pen", 1), ("box", 1)
MAKE = ("make", 1)
DROP, FILL = ("call", INK, "drop", ()), ("call", PEN, "fill", ())
MORE = ("call", INK, "more", (FILL,))


def apart(registry, needs, locks=()):
    """The linkage of a project in which no two links lead to one copy."""
    project = Project(registry, needs, locks=locks)
    return Linkage(project, separate_rows(project))


def inks_apart(library=None, locks=()):
    """A linkage in which the pen has an ink of its own, and the main program sees both."""
    return apart(library or inks(), [("ink", (1, 0)), ("pen", (1, 0))], locks)


def chain_of(count, shown=True):
    """A registry of so many packages, each of which needs the one before; the last one needs the first one, too."""
    registry = Registry()
    names = "abcdefghij"[:count]
    for at, package in enumerate(names):
        registry.declare(package)
        needs = [(names[at - 1], (0, 0), shown)] if at > 0 else []
        if at == count - 1 and count > 2:
            needs.append(("a", (0, 0), shown))
        registry.publish(package, (0, 0), needs)
    return registry


class MixingTest(ErrorCase):
    def assert_mixed(self, linkage):
        """The linkage has a mixing, which is all that the document says of one."""
        found = mixing(linkage)
        self.assertIs(True, is_mixing(linkage, found))
        self.assertIs(tuple, found.__class__)
        other, expression = found
        self.assertEqual(linkage, other)
        self.assertEqual(linkage.project().needs(), other.project().needs())
        library, registry = other.project().registry(), linkage.project().registry()
        self.assertIs(Library, library.__class__)
        self.assertEqual(registry.registry() if isinstance(registry, Library) else registry, library.registry())
        self.assertIsNotNone(main_kind(other.project(), expression))
        begun = list(calls(other, expression))
        self.assertTrue(stray_calls(other, expression))
        self.assertLessEqual(len(begun), 1000)
        return found

    def test_a_conflict_at_the_main_copy(self):
        self.assert_mixed(inks_apart())
        self.assert_mixed(inks_apart(inks().registry()))
        self.assert_mixed(inks_apart(Library.over(inks())))

    def test_a_conflict_at_another_copy(self):
        registry = Registry.of(ink=False, pen=False, box=False, desk=False)
        registry.publish("ink", (1, 0))
        registry.publish("pen", (1, 0), [("ink", (1, 0), True)])
        registry.publish("box", (1, 0), [("ink", (1, 0), False), ("pen", (1, 0), False)])
        registry.publish("desk", (1, 0), [("box", (1, 0), False)])
        for needs in [[("box", (1, 0))], [("desk", (1, 0))], [("desk", (1, 0)), ("ink", (1, 0))]]:
            linkage = apart(registry, needs)
            self.assertNotEqual((), linkage.sight_conflict()[0])
            self.assert_mixed(linkage)

    def test_chains_that_are_ten_long(self):
        for count in range(3, 11):
            self.assert_mixed(apart(chain_of(count), [("abcdefghij"[count - 1], (0, 0))]))
        linkage = apart(chain_of(10), [("j", (0, 0)), ("a", (0, 0))])
        self.assertEqual((), linkage.sight_conflict()[0])
        self.assert_mixed(linkage)

    def test_a_conflict_far_down(self):
        registry = Registry.of(**{name: False for name in "abcdefghij"})
        registry.publish("a", (0, 0))
        registry.publish("b", (0, 0), [("a", (0, 0), True)])
        registry.publish("c", (0, 0), [("a", (0, 0), False), ("b", (0, 0), False)])
        for at in range(3, 10):
            registry.publish("abcdefghij"[at], (0, 0), [("abcdefghij"[at - 1], (0, 0), False)])
        linkage = apart(registry, [("j", (0, 0))])
        self.assertEqual(8, len(linkage.sight_conflict()[0]))
        self.assert_mixed(linkage)

    def test_copies_of_later_releases_than_are_named(self):
        # The box of the linkage is later than the one that is named: only it needs a pen and an ink.
        registry = Registry.of(ink=False, pen=False, box=False, desk=False)
        registry.publish("ink", (1, 0))
        registry.publish("ink", (1, 1))
        registry.publish("pen", (1, 0))
        registry.publish("pen", (1, 1), [("ink", (1, 0), True)])
        registry.publish("box", (1, 0))
        registry.publish("box", (1, 1), [("ink", (1, 1), False), ("pen", (1, 1), True)])
        registry.publish("box", (1, 2), [("ink", (1, 1), True), ("pen", (1, 1), True)])
        registry.publish("desk", (1, 0), [("box", (1, 0), False)])
        registry.publish("desk", (1, 1), [("box", (1, 1), False)])
        project = Project(registry, [("desk", (1, 0))])
        for desk, box in [((1, 0), (1, 1)), ((1, 0), (1, 2)), ((1, 1), (1, 2)), ((1, 1), (1, 1))]:
            rows = [(None, {("desk", 1): 1}), (("desk", desk), {BOX: 2}), (("box", box), {INK: 3, PEN: 4}), (("ink", (1, 1)), {}),
                    (("pen", (1, 1)), {INK: 5}), (("ink", (1, 0)), {})]
            self.assert_mixed(Linkage(project, rows))

    def test_one_label_on_both_chains_with_other_labels_behind_it(self):
        # The main program sees d by way of c alone, and by way of b behind c.
        registry = Registry.of(d=False, b=False, c=False, e=False)
        registry.publish("d", (0, 0))
        registry.publish("b", (0, 0), [("d", (0, 0), True)])
        registry.publish("c", (0, 0), [("b", (0, 0), True), ("d", (0, 0), True)])
        registry.publish("e", (0, 0), [("c", (0, 0), True), ("b", (0, 0), True)])
        for needs in [[("c", (0, 0))], [("e", (0, 0))], [("e", (0, 0)), ("d", (0, 0)), ("c", (0, 0))]]:
            self.assert_mixed(apart(registry, needs))

    def test_no_conflict(self):
        resolved = resolve(Project(inks(), [("ink", (1, 0)), ("pen", (1, 0))]))
        sole = Registry.of(a=True, b=False)
        sole.publish("a", (0, 0))
        sole.publish("b", (0, 0), [("a", (0, 0), False)])
        self.assertIsNone(mixing(linkage=resolved))
        for linkage in [resolve(Project(Library())), apart(sole, [("a", (0, 0)), ("b", (0, 0))])]:
            self.assertIsNone(mixing(linkage))

    def test_drawn_linkages(self):
        chance = random.Random(71)
        counts = [0, 0, 0]
        for at in range(120):
            project = drawn_project(chance)
            if at % 2:
                library = drawn_library(chance)
                needs = drawn_needs(chance, library)
                project = Project(library, needs, locks=drawn_locks(chance, library, needs))
            for linkage in (all_linkages(project) or [])[:60]:
                conflict = linkage.sight_conflict()
                if conflict is None:
                    counts[0] += 1
                    self.assertIsNone(mixing(linkage))
                else:
                    counts[1 if conflict[0] == () else 2] += 1
                    self.assert_mixed(linkage)
        self.assertGreater(min(counts), 30)

    def test_a_linkage_with_400_copies(self):
        self.assertIsNone(mixing(resolve(crowded_project(400))))


class IsMixingTest(ErrorCase):
    def test_the_code_decides(self):
        linkage = inks_apart()
        for expression in [MORE, ("do", MAKE, MORE), ("plus", ("do", MORE, MAKE), 1), ("if", ("make", 0), DROP, MORE)]:
            self.assertIs(True, is_mixing(linkage, (linkage, expression)))
        self.assertIs(True, is_mixing(linkage=linkage, value=(linkage, MORE)))
        for expression in [MAKE, DROP, FILL, ("do", FILL, DROP), ("if", MAKE, DROP, MORE), ("call", INK, "more", (DROP,))]:
            self.assertIs(False, is_mixing(linkage, (linkage, expression)))

    def test_code_without_a_kind_and_values_that_are_none(self):
        linkage = inks_apart()
        for expression in [("plus", MORE, 1), ("do", MORE, ("param", 0)), ("call", None, "more", (MORE,)),
                           ("call", INK, "more", (MORE, MORE)), list(MORE)]:
            self.assertIs(False, is_mixing(linkage, (linkage, expression)))
        for value in odd_values():
            self.assertIs(False, is_mixing(linkage, value))
            self.assertIs(False, is_mixing(linkage, (linkage, value)))
            self.assertIs(False, is_mixing(linkage, (value, MORE)))
        for value in [[linkage, MORE], (linkage,), (linkage, MORE, MORE), (MORE, linkage), (linkage.project(), MORE),
                      linkage, (None, MORE)]:
            self.assertIs(False, is_mixing(linkage, value))

    def test_no_stray_calls_where_there_is_no_conflict(self):
        linkage = resolve(Project(inks(), [("ink", (1, 0)), ("pen", (1, 0))]))
        self.assertIs(False, is_mixing(linkage, (linkage, MORE)))
        # Its copies are others.
        self.assertEqual([False, False], [is_mixing(linkage, (inks_apart(), MORE)), is_mixing(inks_apart(), (linkage, MORE))])

    def test_locks_may_be_any(self):
        locked = inks_apart(locks=[((INK,), (1, 0)), ((PEN, INK), (1, 0))])
        self.assertEqual([True, True], [is_mixing(inks_apart(), (locked, MORE)), is_mixing(locked, (inks_apart(), MORE))])

    def test_functions_may_be_any(self):
        library = Library.over(inks())
        linkage = inks_apart(library)
        self.assertEqual([True, False], [is_mixing(linkage, (inks_apart(), MORE)), is_mixing(inks_apart(), (linkage, MORE))])
        self.assertIs(True, is_mixing(inks_apart(inks().registry()), (inks_apart(), MORE)))

    def test_the_other_registry_must_be_a_library(self):
        linkage = inks_apart(inks().registry())
        self.assertEqual([False, False], [is_mixing(linkage, (linkage, MORE)), is_mixing(inks_apart(), (linkage, MORE))])

    def test_another_registry(self):
        linkage = inks_apart()
        changes = [
            lambda library: library.declare("box"),
            lambda library: library.publish("ink", (1, 1), [], library.functions("ink", (1, 0))),
            lambda library: library.publish("pen", (0, 0)), lambda library: library.publish("ink", (2, 0)),
        ]
        for change in changes:
            library = inks()
            change(library)
            other = inks_apart(library)
            self.assertEqual(linkage, other)
            self.assertEqual([False, False], [is_mixing(linkage, (other, MORE)), is_mixing(other, (linkage, MORE))])
            self.assertIs(True, is_mixing(other, (other, MORE)))

    def test_another_sole_package(self):
        def with_sole(sole):
            library = Library()
            library.declare("ink", sole=sole)
            library.declare("pen")
            for package, version in inks().releases():
                library.publish(package, version, inks().needs(package, version), inks().functions(package, version))
            return inks_apart(library)

        for one in (False, True):
            for other in (False, True):
                self.assertEqual(one == other, is_mixing(with_sole(one), (with_sole(other), MORE)))

    def test_other_needs_of_releases(self):
        def with_shown(version, shown):
            library = Library()
            library.declare("ink")
            library.declare("pen")
            drops = [("drop", (), "own", MAKE), ("more", ("own",), "own", ("param", 0))]
            library.publish("ink", (1, 0), [], drops)
            library.publish("ink", (1, 1), [], drops)
            library.publish("pen", (1, 0), [("ink", version, True)])
            library.publish("pen", (2, 0), [("ink", (1, 0), shown)])
            rows = [(None, {INK: 1, PEN: 2}), (("ink", (1, 1)), {}), (("pen", (1, 0)), {INK: 3}), (("ink", (1, 1)), {})]
            return Linkage(Project(library, [("ink", (1, 0)), ("pen", (1, 0))]), rows)

        for version, shown in [((1, 0), True), ((1, 1), True), ((1, 0), False)]:
            one = with_shown(version, shown)
            expression = mixing(one)[1]
            found = (mixing(one)[0], expression)
            same = [is_mixing(with_shown(*other), found) for other in [((1, 0), True), ((1, 1), True), ((1, 0), False)]]
            self.assertEqual([each == (version, shown) for each in [((1, 0), True), ((1, 1), True), ((1, 0), False)]], same)

    def test_other_needs_of_the_main_program(self):
        library = inks()
        library.publish("ink", (1, 1), [], library.functions("ink", (1, 0)))
        rows = [(None, {INK: 1, PEN: 2}), (("ink", (1, 1)), {}), (("pen", (1, 0)), {INK: 3}), (("ink", (1, 1)), {})]
        one = Linkage(Project(library, [("ink", (1, 0)), ("pen", (1, 0))]), rows)
        other = Linkage(Project(library, [("ink", (1, 1)), ("pen", (1, 0))]), rows)
        self.assertEqual(one, other)
        self.assertEqual([True, False, False, True],
                         [is_mixing(each, (far, MORE)) for each in (one, other) for far in (one, other)])

    def test_other_releases_and_copies(self):
        library = inks()
        library.publish("ink", (1, 1), [], library.functions("ink", (1, 0)))
        project = Project(library, [("ink", (1, 0)), ("pen", (1, 0))])
        linkages = []
        for one, other in [((1, 0), (1, 0)), ((1, 1), (1, 0)), ((1, 0), (1, 1))]:
            rows = [(None, {INK: 1, PEN: 2}), (("ink", one), {}), (("pen", (1, 0)), {INK: 3}), (("ink", other), {})]
            linkages.append(Linkage(project, rows))
        for one in linkages:
            self.assertEqual([one == other for other in linkages], [is_mixing(one, (other, MORE)) for other in linkages])

    def test_the_1000th_call_and_the_1001st(self):
        linkage = apart(with_counters(inks()), [("ink", (1, 0)), ("pen", (1, 0)), ("n", (0, 0))])
        most, one = ("call", ("n", 0), "most", ()), ("call", ("n", 0), "one", ())
        within, behind = ("do", most, MORE), ("do", most, ("do", one, MORE))
        for expression, place in [(within, 1000), (behind, 1001)]:
            begun, strays = list(calls(linkage, expression, limit=2000)), stray_calls(linkage, expression, limit=2000)
            self.assertEqual([place], [at for at, call in enumerate(begun, start=1) if call in strays])
        self.assertEqual([True, False], [is_mixing(linkage, (linkage, within)), is_mixing(linkage, (linkage, behind))])
        # There may be more calls behind it.
        self.assertIs(True, is_mixing(linkage, (linkage, ("do", within, ("do", most, most)))))
        self.assertIs(True, is_mixing(linkage, (linkage, ("do", MORE, ("do", most, most)))))


if __name__ == "__main__":
    unittest.main()
