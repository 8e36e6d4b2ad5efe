"""The names, arguments and kinds of values that the document lists."""

import inspect
import unittest

from leastlinks import names, registry, sight

FUNCTIONS = [
    (names, "is_name", "(value)"), (names, "is_version", "(value)"), (names, "is_label", "(value)"),
    (names, "is_path", "(value)"), (names, "version_text", "(version)"), (names, "path_text", "(path)"),
    (names, "read_version", "(text)"), (names, "read_path", "(text)"),
    (sight, "shows", "(registry, package, version, chain)"), (sight, "sees", "(registry, package, version, chain)"),
    (sight, "shown_labels", "(registry, package, version)"), (sight, "seen_labels", "(registry, package, version)"),
    (sight, "seen_chains", "(registry, package, version)"),
]
METHODS = [
    ("__init__", "(self)"), ("clone", "(self)"), ("declare", "(self, package, *, sole=False)"),
    ("publish", "(self, package, version, needs=())"), ("packages", "(self)"), ("is_sole", "(self, package)"),
    ("versions", "(self, package)"), ("has_package", "(self, value)"), ("has_label", "(self, value)"),
    ("has_release", "(self, package, version)"), ("needs", "(self, package, version)"), ("releases", "(self)"),
    ("__eq__", "(self, other)"), ("__len__", "(self)"), ("__str__", "(self)"), ("__repr__", "(self)"),
]


class InterfaceTest(unittest.TestCase):
    def test_functions_are_defined_in_their_files(self):
        for module, name, arguments in FUNCTIONS:
            function = vars(module)[name]
            self.assertTrue(inspect.isfunction(function))
            self.assertEqual(module.__name__, function.__module__)
            self.assertEqual(arguments, str(inspect.signature(function)))

    def test_methods_are_defined_in_the_class(self):
        self.assertEqual(("leastlinks.registry", (object,)), (registry.Registry.__module__, registry.Registry.__bases__))
        for name, arguments in METHODS:
            self.assertEqual(arguments, str(inspect.signature(vars(registry.Registry)[name])))
        for name, arguments in [("read", "(text)"), ("of", "(**packages)")]:
            self.assertIsInstance(vars(registry.Registry)[name], classmethod)
            self.assertEqual(arguments, str(inspect.signature(getattr(registry.Registry, name))))

    def test_generators(self):
        self.assertTrue(inspect.isgeneratorfunction(registry.Registry.releases))
        self.assertTrue(inspect.isgeneratorfunction(sight.seen_chains))


if __name__ == "__main__":
    unittest.main()
