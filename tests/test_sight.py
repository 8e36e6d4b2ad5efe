import itertools
import random
import unittest

from leastlinks.errors import UnknownRelease
from leastlinks.registry import Registry
from leastlinks.sight import seen_chains, seen_labels, sees, shown_labels, shows
from tests.support import ErrorCase, everything, fonts, odd_values

FONT, PAGE, SITE = ("font", 1), ("page", 1), ("site", 1)


def tangled():
    """A registry whose package d reaches two releases of b/0, by needs that are shown and hidden in turn."""
    registry = Registry.of(a=False, b=False, c=True, d=False)
    registry.publish("a", (0, 0))
    registry.publish("a", (0, 1))
    registry.publish("a", (1, 0))
    registry.publish("b", (0, 0), [("a", (0, 0), True), ("a", (1, 0), False)])
    registry.publish("b", (0, 1), [("a", (0, 1), True), ("a", (1, 0), True)])
    registry.publish("c", (10, 0), [("b", (0, 1), False)])
    registry.publish("c", (9, 0), [("b", (0, 0), True), ("a", (0, 1), False)])
    registry.publish("d", (0, 0), [("c", (10, 0), True), ("c", (9, 0), True), ("a", (1, 0), False)])
    return registry


def random_registry(chance):
    """A registry with a package for each letter and one to three releases of each, every one of its own generation."""
    registry = Registry.of(**{name: False for name in "fedcba"})
    for package in registry.packages():
        earlier = [release for release in registry.releases() if release[0] != package]
        for generation in range(chance.randint(1, 3)):
            used = chance.sample(earlier, min(len(earlier), chance.randrange(4)))
            needs = [(name, version, chance.random() < 0.6) for name, version in used]
            registry.publish(package, (generation, chance.randrange(3)), needs)
    return registry


def chains_by_the_words(registry, package, version, only_shown):
    """The chains that a release shows, or sees, as the document defines them, without an order."""
    found = []
    for name, named, is_shown in registry.needs(package, version):
        if is_shown or not only_shown:
            label = (name, named[0])
            found.append((label,))
            # Behind a named release only what that release shows counts, also for sight.
            found += [(label,) + chain for chain in chains_by_the_words(registry, name, named, True)]
    return found


class ChainsTest(ErrorCase):
    def test_chains_of_one_label(self):
        registry = fonts()
        self.assertEqual([True, True], [shows(registry, "page", (1, 0), (FONT,)), sees(registry, "page", (1, 0), (FONT,))])
        self.assertEqual([False, True], [shows(registry, "site", (1, 0), (PAGE,)), sees(registry, "site", (1, 0), (PAGE,))])
        self.assertEqual([False, False], [shows(registry, "site", (1, 0), (FONT,)), sees(registry, "site", (1, 0), (FONT,))])
        self.assertEqual([False, False], [shows(registry, "font", (1, 0), (FONT,)), sees(registry, "font", (1, 0), (FONT,))])

    def test_behind_a_named_release_only_what_it_shows_is_seen(self):
        registry = tangled()
        c, b, a = ("c", 10), ("b", 0), ("a", 1)
        # c 10.0 hides its need of b, which d does not see therefore.
        for function in [sees, shows]:
            self.assertEqual([True, False, False],
                             [function(registry, "d", (0, 0), chain) for chain in [(c,), (c, b), (c, b, a)]])
        # The first need is hidden, the second one is shown.
        self.assertEqual([True, False],
                         [sees(registry, "c", (10, 0), (b, a)), shows(registry, "c", (10, 0), (b, a))])

    def test_only_the_named_releases_count(self):
        registry = tangled()
        # c 9.0 names b 0.0, which hides a/1; b 0.1, which shows it, does not count.
        self.assertIs(False, shows(registry, "d", (0, 0), (("c", 9), ("b", 0), ("a", 1))))
        self.assertIs(False, sees(registry, "d", (0, 0), (("c", 9), ("b", 0), ("a", 1))))
        self.assertIs(True, shows(registry, "d", (0, 0), (("c", 9), ("b", 0), ("a", 0))))
        self.assertIs(True, sees(registry, "d", (0, 0), (("c", 9), ("b", 0), ("a", 0))))
        self.assertIs(True, sees(registry, "c", (10, 0), (("b", 0), ("a", 1))))

    def test_values_that_are_no_chains(self):
        registry = fonts()
        values = [(), [], [FONT], FONT, (FONT, FONT), (("font", True),), (["font", 1],), ("font",), "font/1", (PAGE, None),
                  (PAGE,) * 11, (FONT,) * 10, (FONT, PAGE), (("font", 0),), (("font", 2),), (("text", 1),), ((FONT,),)]
        for value in values + odd_values():
            self.assertIs(False, shows(registry, "page", (1, 0), value))
            self.assertIs(False, sees(registry, "page", (1, 0), value))
            self.assertIs(False, sees(registry, "font", (1, 0), value))
            self.assertIs(False, shows(registry, "site", (1, 0), value))
        self.assertIs(False, sees(registry, "site", (1, 0), (PAGE, ("font", True))))
        self.assertIs(False, sees(registry, "site", (1, 0), (PAGE, FONT, FONT)))
        self.assertIs(False, sees(registry, "site", (1, 0), (SITE, PAGE)))

    def test_a_chain_of_nine_labels(self):
        names = list("abcdefghij")
        registry = Registry.of(**{name: False for name in names})
        registry.publish("a", (0, 0))
        for used, user in zip(names, names[1:]):
            registry.publish(user, (0, 0), [(used, (0, 0), used not in ("a", "i"))])
        chain = tuple((name, 0) for name in reversed(names[:-1]))
        # The need of i is hidden, which only its user j sees; that of a is hidden, which only b sees.
        self.assertIs(False, sees(registry, "j", (0, 0), chain))
        self.assertIs(True, sees(registry, "j", (0, 0), chain[:-1]))
        self.assertIs(False, shows(registry, "j", (0, 0), chain[:1]))
        self.assertIs(True, shows(registry, "i", (0, 0), chain[1:-1]))
        self.assertEqual([chain[:count] for count in range(1, 9)], list(seen_chains(registry, "j", (0, 0))))
        self.assertEqual([("b", 0), ("c", 0)], shown_labels(registry, "d", (0, 0)))
        self.assertEqual([("b", 0), ("c", 0)], seen_labels(registry, "d", (0, 0)))
        self.assertEqual([("a", 0)], seen_labels(registry, "b", (0, 0)))


class LabelsTest(ErrorCase):
    def test_seen_and_shown_labels(self):
        registry = tangled()
        a, b, c = [("a", 0), ("a", 1)], [("b", 0)], [("c", 9), ("c", 10)]
        self.assertEqual(a + b + c, seen_labels(registry, "d", (0, 0)))
        self.assertEqual(a[:1] + b + c, shown_labels(registry, "d", (0, 0)))
        self.assertEqual(a[:1] + b, seen_labels(registry, "c", (9, 0)))
        self.assertEqual(a + b, seen_labels(registry, "c", (10, 0)))
        self.assertEqual([], shown_labels(registry, "c", (10, 0)))
        self.assertEqual(a[:1] + b, shown_labels(registry, "c", (9, 0)))
        self.assertEqual([a[:1], a], [shown_labels(registry, "b", (0, 0)), seen_labels(registry, "b", (0, 0))])
        self.assertEqual([[], []], [shown_labels(registry, "a", (0, 0)), seen_labels(registry, "a", (0, 0))])

    def test_a_label_that_is_hidden_and_shown_is_shown(self):
        registry = Registry.of(a=False, b=False, c=False)
        registry.publish("a", (0, 0))
        registry.publish("b", (0, 0), [("a", (0, 0), True)])
        registry.publish("c", (0, 0), [("a", (0, 0), False), ("b", (0, 0), True)])
        self.assertEqual([("a", 0), ("b", 0)], shown_labels(registry, "c", (0, 0)))
        self.assertIs(False, shows(registry, "c", (0, 0), (("a", 0),)))

    def test_one_release_that_is_reached_hidden_and_shown(self):
        registry = Registry.of(a=False, b=False, c=False, d=False)
        registry.publish("a", (0, 0))
        registry.publish("b", (0, 0), [("a", (0, 0), False)])
        registry.publish("b", (0, 1), [("a", (0, 0), True)])
        registry.publish("c", (0, 0), [("b", (0, 1), True)])
        registry.publish("d", (0, 0), [("b", (0, 0), True), ("c", (0, 0), True)])
        self.assertEqual([("a", 0), ("b", 0), ("c", 0)], shown_labels(registry, "d", (0, 0)))

    def test_returned_lists_are_new(self):
        registry = tangled()
        for function in [seen_labels, shown_labels]:
            first = function(registry, "d", (0, 0))
            again = list(first)
            first.clear()
            self.assertEqual(again, function(registry, "d", (0, 0)))
            self.assertIs(list, type(function(registry, "a", (0, 0))))

    def test_few_labels_of_many_chains(self):
        registry = many_chains()
        self.assertEqual(32, len(seen_labels(registry, "i", (0, 0))))
        self.assertEqual(32, len(shown_labels(registry, "i", (0, 0))))
        self.assertEqual([(("h", 0),), (("h", 0), ("g", 0))], list(itertools.islice(seen_chains(registry, "i", (0, 0)), 2)))


def many_chains():
    """A registry with four releases of each package, each of which shows all four of the package before it."""
    registry = Registry.of(**{name: False for name in "abcdefghi"})
    for before, package in zip(" abcdefgh", "abcdefghi"):
        needs = [(before, (generation, 0), True) for generation in range(4)] if before != " " else []
        for generation in range(4):
            registry.publish(package, (generation, 0), needs)
    return registry


class SeenChainsTest(ErrorCase):
    def test_the_order_of_the_chains(self):
        chains = [
            (("a", 1),), (("c", 9),), (("c", 9), ("b", 0)), (("c", 9), ("b", 0), ("a", 0)), (("c", 10),),
        ]
        self.assertEqual(chains, list(seen_chains(tangled(), "d", (0, 0))))
        chains = [(("b", 0),), (("b", 0), ("a", 0)), (("b", 0), ("a", 1))]
        self.assertEqual(chains, list(seen_chains(tangled(), "c", (10, 0))))
        self.assertEqual([], list(seen_chains(tangled(), "a", (0, 0))))

    def test_it_raises_when_the_iteration_begins(self):
        for package, version in [("font", (1, 2)), ("text", (1, 0)), ("font", (True, 0)), (None, [1])]:
            chains = seen_chains(fonts(), package, version)
            self.assert_fails(UnknownRelease, {"package": package, "version": version}, next, chains)
            self.assertEqual([], list(chains))

    def test_hidden_and_shown_needs_in_turn(self):
        for first, last in [(True, True), (True, False), (False, True), (False, False)]:
            registry = Registry.of(a=False, b=False, c=False)
            registry.publish("a", (0, 0))
            registry.publish("b", (0, 0), [("a", (0, 0), last)])
            registry.publish("c", (0, 0), [("b", (0, 0), first)])
            a, b = ("a", 0), ("b", 0)
            self.assertEqual([(b,), (b, a)] if last else [(b,)], list(seen_chains(registry, "c", (0, 0))))
            self.assertEqual([a, b] if last else [b], seen_labels(registry, "c", (0, 0)))
            self.assertIs(last, sees(registry, "c", (0, 0), (b, a)))
            self.assertIs(first and last, shows(registry, "c", (0, 0), (b, a)))
            self.assertIs(first, shows(registry, "c", (0, 0), (b,)))
            self.assertEqual([(a,)], list(seen_chains(registry, "b", (0, 0))))

    def test_it_is_a_generator(self):
        chains = seen_chains(fonts(), "site", (1, 0))
        self.assertIs(chains, iter(chains))
        self.assertEqual((PAGE,), next(chains))
        self.assertEqual((PAGE, FONT), next(chains))
        self.assertEqual([], list(chains))

    def test_two_iterations_side_by_side(self):
        registry = tangled()
        pairs = list(zip(seen_chains(registry, "d", (0, 0)), seen_chains(registry, "d", (0, 0))))
        self.assertEqual([(chain, chain) for chain in seen_chains(registry, "d", (0, 0))], pairs)


class SightTest(ErrorCase):
    def test_releases_that_are_not_there(self):
        registry = fonts()
        pairs = [("font", (1, 2)), ("font", (0, 0)), ("text", (1, 0)), ("font", (1, True)), ("font", [1, 0]), (["font"], (1, 0)),
                 ("font", ("font", 1))]
        pairs += [(value, (1, 0)) for value in odd_values()] + [("font", value) for value in odd_values()]
        for package, version in pairs:
            told = {"package": package, "version": version}
            for chain in [(FONT,), (), None]:
                self.assert_fails(UnknownRelease, told, shows, registry, package, version, chain)
                self.assert_fails(UnknownRelease, told, sees, registry, package, version, chain)
            self.assert_fails(UnknownRelease, told, shown_labels, registry, package, version)
            self.assert_fails(UnknownRelease, told, seen_labels, registry, package, version)
            self.assert_fails(UnknownRelease, told, list, seen_chains(registry, package, version))

    def test_arguments_by_name(self):
        named = {"registry": fonts(), "version": (1, 0), "package": "page"}
        self.assertIs(True, shows(chain=(FONT,), **named))
        self.assertIs(True, sees(chain=(FONT,), **named))
        self.assertEqual([[FONT], [FONT], [(FONT,)]],
                         [shown_labels(**named), seen_labels(**named), list(seen_chains(**named))])

    def test_the_registry_is_not_changed(self):
        registry = tangled()
        before = everything(registry)
        list(seen_chains(registry, "d", (0, 0)))
        seen_labels(registry, "d", (0, 0))
        shown_labels(registry, "d", (0, 0))
        sees(registry, "d", (0, 0), (("c", 9), ("b", 0)))
        self.assertEqual(before, everything(registry))

    def test_later_releases_show_and_see_what_earlier_ones_do(self):
        registry = tangled()
        for chain in seen_chains(registry, "b", (0, 0)):
            self.assertIs(True, sees(registry, "b", (0, 1), chain))

    def test_random_registries_by_the_words_of_the_document(self):
        chance = random.Random(2)
        for _ in range(40):
            registry = random_registry(chance)
            labels = [(package, generation) for package in "abcdef" for generation in range(3)]
            for package, version in registry.releases():
                seen = chains_by_the_words(registry, package, version, False)
                shown = chains_by_the_words(registry, package, version, True)
                self.assertEqual(sorted(seen), list(seen_chains(registry, package, version)))
                self.assertEqual(sorted({chain[-1] for chain in seen}), seen_labels(registry, package, version))
                self.assertEqual(sorted({chain[-1] for chain in shown}), shown_labels(registry, package, version))
                others = [tuple(chance.choices(labels, k=chance.randint(1, 3))) for _ in range(20)]
                for chain in seen + others:
                    self.assertIs(chain in seen, sees(registry, package, version, chain))
                    self.assertIs(chain in shown, shows(registry, package, version, chain))


if __name__ == "__main__":
    unittest.main()
