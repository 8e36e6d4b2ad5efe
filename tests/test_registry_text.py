import random
import unittest

from leastlinks.errors import InvalidText, LinkError, NotGrowing, NotRising, TooMany
from leastlinks.registry import Registry
from tests.support import ErrorCase, odd_values, without_kind

TEXT = """package a
release a 0.0
release a 0.2
release a 1.10
release a 10.0
package b sole
package c
release c 0.0
release c 2.1 a/0.0 a/1.10+ a/10.0
release c 2.3 a/0.2+ a/1.10+ a/10.0
"""
LINES = TEXT.split("\n")[:-1]


def text_registry():
    """The registry whose text is TEXT."""
    registry = Registry.of(a=False, b=True, c=False)
    registry.publish("a", (10, 0))
    registry.publish("c", (0, 0))
    registry.publish("a", (0, 0))
    registry.publish("a", (1, 10))
    registry.publish("c", (2, 1), [("a", (10, 0), False), ("a", (1, 10), True), ("a", (0, 0), False)])
    registry.publish("a", (0, 2))
    registry.publish("c", (2, 3), (("a", (0, 2), True), ("a", (10, 0), False), ("a", (1, 10), True)))
    return registry


def random_registry(chance):
    """A registry that was made by random calls of which some were refused."""
    registry = Registry()
    for _ in range(chance.randrange(60)):
        registry_call(chance, registry)
    return registry


def registry_call(chance, registry):
    """Declare or publish something at random."""
    packages = registry.packages()
    try:
        if not packages or chance.random() < 0.1:
            registry.declare(chance.choice("abcdefghijklm") * chance.randint(1, 8), sole=chance.random() < 0.3)
            return
        found = list(registry.releases())
        needs = [release + (chance.random() < 0.5,) for release in chance.sample(found, min(len(found), chance.randrange(4)))]
        registry.publish(chance.choice(packages), (chance.randrange(3), chance.randrange(12)), needs)
    except (LinkError, RuntimeError, TooMany):
        pass


class TextTest(ErrorCase):
    def assert_wrong(self, lines, number):
        """The text of these lines is wrong at this line, and right, as the text of a registry, up to the one before."""
        text = "".join(line + "\n" for line in lines)
        self.assert_fails(InvalidText, {"line": number}, Registry.read, text)
        before = "".join(line + "\n" for line in lines[:number - 1])
        self.assertEqual(before, str(Registry.read(before)))
        # Neither what follows nor a missing line feed changes the line that is told.
        self.assert_fails(InvalidText, {"line": number}, Registry.read, text + "nothing\n\n")
        if lines[-1] != "":
            self.assert_fails(InvalidText, {"line": number}, Registry.read, text[:-1])

    def test_the_text_both_ways(self):
        self.assertEqual(TEXT, str(text_registry()))
        self.assertEqual(text_registry(), Registry.read(TEXT))
        self.assertEqual(TEXT, str(Registry.read(TEXT)))
        self.assertEqual(text_registry(), Registry.read(text=TEXT))
        self.assertIs(Registry, type(Registry.read(TEXT)))

    def test_the_empty_text(self):
        self.assertEqual("", str(Registry()))
        self.assertEqual(Registry(), Registry.read(""))

    def test_packages_without_releases(self):
        self.assertEqual("package z\npackage sole sole\npackage a\n", str(Registry.of(z=False, sole=True, a=False)))
        for registry in [Registry.of(z=False, sole=True, a=False), Registry.of(sole=False), Registry.of(package=True)]:
            self.assertEqual(registry, Registry.read(str(registry)))

    def test_what_is_read_can_be_changed(self):
        registry = Registry.read(TEXT)
        self.assert_refused(registry, NotRising, {"package": "a", "version": (0, 1)}, registry.publish, "a", (0, 1))
        self.assert_refused(registry, NotGrowing, {"label": ("a", 0)}, registry.publish, "c", (2, 4))
        self.assertIsNone(registry.publish("c", (2, 4), registry.needs("c", (2, 3))))
        self.assertEqual(TEXT + LINES[-1].replace("2.3", "2.4") + "\n", str(registry))

    def test_random_registries_both_ways(self):
        chance = random.Random(1)
        for _ in range(300):
            registry = random_registry(chance)
            self.assertEqual(registry, Registry.read(str(registry)))
            self.assertEqual(str(registry), str(Registry.read(str(registry))))

    def test_each_beginning_of_lines_is_a_text(self):
        for count in range(len(LINES) + 1):
            text = "".join(line + "\n" for line in LINES[:count])
            self.assertEqual(text, str(Registry.read(text)))

    def test_values_that_are_no_strings(self):
        for value in without_kind(odd_values(), str) + [TEXT.encode(), LINES, text_registry(), b"", [], None]:
            self.assert_fails(InvalidText, {"line": 0}, Registry.read, value)

    def test_a_last_line_without_a_line_feed(self):
        self.assert_fails(InvalidText, {"line": 1}, Registry.read, "package a")
        self.assert_fails(InvalidText, {"line": 2}, Registry.read, "package a\nrelease a 0.0")
        self.assert_fails(InvalidText, {"line": 2}, Registry.read, "package a\n ")
        self.assert_fails(InvalidText, {"line": 1}, Registry.read, "p")
        for count in range(1, len(LINES) + 1):
            self.assert_fails(InvalidText, {"line": count}, Registry.read, "\n".join(LINES[:count]))
        # A line that is wrong before it is told instead.
        self.assert_fails(InvalidText, {"line": 2}, Registry.read, "package a\npackage a\npackage b")

    def test_empty_lines(self):
        self.assert_wrong([""], 1)
        for at in range(len(LINES) + 1):
            self.assert_wrong(LINES[:at] + [""] + LINES[at:], at + 1)

    def test_each_line_with_another_form(self):
        for at, line in enumerate(LINES):
            for wrong in [" " + line, line + " ", line.replace(" ", "  ", 1), line.replace(" ", "", 1), line.upper(), line + "/",
                          line.replace(" ", "\n", 1), line[1:], line + " x", line.replace("e", "E", 1), "#" + line,
                          line.replace(" ", " - ", 1)]:
                self.assert_wrong(LINES[:at] + wrong.split("\n") + LINES[at + 1:], at + 1)

    def test_wrong_lines_of_packages(self):
        for line in ["package", "package ", "package A", "package abcdefghi", "package a1", "package b Sole", "package b sole ",
                     "package b sole sole", "package b not", "package b c", "package  b", "packages b", "Package b", " package b",
                     "package b  sole", "package a", "package a sole", "package sole sole sole", "sole b", "b", "package b 0.0"]:
            self.assert_wrong(["package a", line], 2)

    def test_the_eleventh_package(self):
        lines = [f"package {name}" for name in "abcdefghij"]
        self.assertEqual(list("abcdefghij"), Registry.read("".join(line + "\n" for line in lines)).packages())
        self.assert_wrong(lines + ["package k"], 11)

    def test_wrong_lines_of_releases(self):
        lines = ["package a", "release a 0.0", "release a 1.5", "package b", "release b 0.0 a/0.0+ a/1.5"]
        for line in ["release", "release ", "release b", "release b ", "release 1.0", "release c 1.0", "release a 2.0",
                     "release B 1.0", "release b 1", "release b 1.0.0", "release b 01.0", "release b 1.00", "release b 1.-1",
                     "release b -1.0", "release b 1,0", "release b 1.0 ", "release  b 1.0", "release b  1.0", "release b/1.0",
                     "Release b 1.0", "releases b 1.0", "release b 1.0 sole", "release b 1.0+", "release b 1.0 |"]:
            self.assert_wrong(lines + [line], 6)
        self.assert_wrong(["release a 0.0"], 1)
        self.assert_wrong(["package a", "package b", "release a 0.0"], 3)

    def test_versions_that_do_not_rise(self):
        lines = ["package a", "release a 0.5", "release a 1.5", "release a 1.10"]
        for version in ["1.10", "1.9", "1.5", "1.0", "0.5", "0.6", "0.11", "0.0"]:
            self.assert_wrong(lines + [f"release a {version}"], 5)
        for version in ["1.11", "1.100", "2.0", "10.0"]:
            text = "".join(line + "\n" for line in lines + [f"release a {version}"])
            self.assertEqual(text, str(Registry.read(text)))

    def test_wrong_needs(self):
        lines = ["package a", "release a 0.0", "release a 0.5", "release a 2.0", "release a 10.0", "package b", "release b 0.0"]
        for needs in ["a", "a/0", "a/0.0.0", "a/00.0", "a/0.00", "a/0.0++", "+a/0.0", "a/0.0 +", "a/+0.0", "a/0.0-", "A/0.0",
                      "/0.0", "0.0", "a//0.0", "a/0/0.0", "a /0.0", "a/ 0.0", "a/0.0,a/2.0", "a/0.1", "a/1.0", "a/3.0", "b/0.0",
                      "c/0.0", "d/0.0", "abcdefghi/0.0", "a/0.0  a/2.0", "a/0.0 ", " a/0.0", "a/2.0 a/0.0", "a/10.0 a/2.0",
                      "a/0.0 a/10.0 a/2.0", "a/0.0 a/0.0", "a/0.0 a/0.5", "a/0.5 a/0.0+", "a/0.0 a/2.0 a/0.5", "a/0.0 c/0.0",
                      "a/0.0 a/2.0 a/3.0"]:
            self.assert_wrong(lines + [f"release b 1.0 {needs}"], 8)
        for needs in ["a/0.0", "a/0.5+", "a/0.0 a/2.0", "a/2.0+ a/10.0+", "a/0.0+ a/2.0 a/10.0+"]:
            text = "".join(line + "\n" for line in lines + [f"release b 1.0 {needs}"])
            self.assertEqual(text, str(Registry.read(text)))

    def test_needs_are_sorted_by_their_packages_first(self):
        lines = ["package z", "release z 0.0", "release z 1.0", "package a", "release a 5.0", "package m"]
        self.assert_wrong(lines + ["release m 0.0 z/0.0 a/5.0"], 7)
        self.assert_wrong(lines + ["release m 0.0 a/5.0 z/1.0 z/0.0"], 7)
        text = "".join(line + "\n" for line in lines + ["release m 0.0 a/5.0 z/0.0 z/1.0"])
        self.assertEqual(text, str(Registry.read(text)))

    def test_needs_of_packages_that_come_later(self):
        lines = ["package a", "release a 0.0 b/0.0", "package b", "release b 0.0"]
        self.assert_wrong(lines, 2)
        self.assert_wrong(["package a", "release a 0.0", "release a 1.0 a/0.0"], 3)

    def test_needs_that_are_not_kept(self):
        lines = ["package a", "release a 0.0", "release a 0.1", "package b", "release b 1.0 a/0.1+"]
        for needs in ["", " a/0.0+", " a/0.1", " a/0.0"]:
            self.assert_wrong(lines + [f"release b 1.1{needs}"], 6)
            text = "".join(line + "\n" for line in lines + [f"release b 2.0{needs}"])
            self.assertEqual(text, str(Registry.read(text)))

    def test_the_seventh_need(self):
        lines = ["package a"] + [f"release a {k}.0" for k in range(7)] + ["package b"]
        six = "".join(f" a/{k}.0" for k in range(6))
        text = "".join(line + "\n" for line in lines + ["release b 0.0" + six])
        self.assertEqual(text, str(Registry.read(text)))
        self.assert_wrong(lines + [f"release b 0.0{six} a/6.0"], 10)

    def test_the_forty_first_release(self):
        lines = ["package a"] + [f"release a 0.{k}" for k in range(40)]
        self.assertEqual(40, len(Registry.read("".join(line + "\n" for line in lines))))
        self.assert_wrong(lines + ["release a 0.40"], 42)
        self.assert_wrong(lines + ["package b", "release b 0.0"], 43)

    def test_numbers_of_many_digits(self):
        large = "9" * 30
        text = f"package a\nrelease a {large}.{large}\npackage b\nrelease b 0.{large} a/{large}.{large}+\n"
        self.assertEqual(text, str(Registry.read(text)))


if __name__ == "__main__":
    unittest.main()
