"""What several tests share: odd values, and a test case that looks at errors and at the whole of a registry."""

import unittest

from leastlinks.library import Library
from leastlinks.registry import Registry


class EqualToAll:
    """A value that says it is equal to every other one."""

    def __eq__(self, other):
        return True

    def __hash__(self):
        return 1


class NoComparing:
    """A value that can be neither compared nor used as a key."""

    __hash__ = None

    def __eq__(self, other):
        raise AssertionError("was compared")

    def __repr__(self):
        raise AssertionError("was shown")


class Empty:
    """A value of a class of its own."""


def odd_values():
    """Values that are no name, no version, no label, no path with a label, no list and no tuple of needs."""
    return [
        None, True, False, 0, 1, -1, 10 ** 29, "", "A", "a b", "abcdefghi", "a1", "a\n", " a", "-", b"a", b"",
        {}, {"a": 1}, {1: [2], None: {}, ("a", (0, 0)): set()}, set(), {1}, frozenset({"a"}),
        object(), object, len, EqualToAll(), NoComparing(), Empty(), Empty, range(3), iter(()), bytearray(b"a"),
        ["a"], ["a", 0], [0, 0], [("a", 0)], [[[[]]]], [None], ("a",), (None,), ((),), ([],), ({},),
        ("a", True), ("a", False), ("a", -1), ("a", "0"), ("a", None), ("a", [0]), ("A", 0), ("", 0), (b"a", 0),
        (True, 0), (0, True), (False, False), (-1, 0), (0, -1), ("0", 0), (0, None), (0,), (0, 0, 0), ("a", 0, 0),
        (NoComparing(), NoComparing()), (EqualToAll(), EqualToAll()), (("a", 0), 0),
        (("a", True),), (["a", 0],), (("a", 0), ("b", False)), (("a", 0), None), (("a", 0), ["b", 0]),
    ]


def without_kind(values, kind):
    """The values that are no instances of a class."""
    return [value for value in values if not isinstance(value, kind)]


def everything(registry):
    """All that a registry tells, with the kind of each number, as one text."""
    rows = [repr(registry), str(registry), repr(registry.packages()), repr(list(registry.releases()))]
    for package in registry.packages():
        rows.append(repr((package, registry.is_sole(package), registry.versions(package))))
        rows += [repr(registry.needs(package, version)) for version in registry.versions(package)]
        if isinstance(registry, Library):
            rows += [repr(registry.functions(package, version)) for version in registry.versions(package)]
    return rows


def fonts():
    """The registry of fonts, pages and sites of the document's examples on sight."""
    registry = Registry.of(font=False, page=False, site=False)
    registry.publish("font", (1, 0))
    registry.publish("font", (1, 1))
    registry.publish("page", (1, 0), [("font", (1, 0), True)])
    registry.publish("page", (1, 1), [("font", (1, 1), True)])
    registry.publish("site", (1, 0), [("page", (1, 0), False)])
    return registry


class ErrorCase(unittest.TestCase):
    """A test case with assertions on errors."""

    def assert_fails(self, error, told, call, *args, **named):
        """The call raises an error of this very class, whose attributes are just these very values."""
        with self.assertRaises(error) as caught:
            call(*args, **named)
        self.assertIs(error, caught.exception.__class__)
        attributes = vars(caught.exception)
        self.assertEqual(sorted(told), sorted(attributes))
        for name in told:
            if told[name] is not attributes[name]:
                self.assertEqual(told[name], attributes[name])
                self.assertIs(told[name].__class__, attributes[name].__class__)

    def assert_refused(self, registry, error, told, call, *args, **named):
        """The call raises this error and leaves the registry as it was."""
        before = everything(registry)
        self.assert_fails(error, told, call, *args, **named)
        self.assertEqual(before, everything(registry))
