"""The names, arguments and kinds of values that the document lists."""

import inspect
import unittest

from leastlinks import code, code_texts, comparing, console, deriving, edits, facts, histories, judging, library, linkages
from leastlinks import mixing, names, projects, registry, resolving, running, sight, workspaces

FUNCTIONS = [
    (names, "is_name", "(value)"), (names, "is_version", "(value)"), (names, "is_label", "(value)"),
    (names, "is_path", "(value)"), (names, "version_text", "(version)"), (names, "path_text", "(path)"),
    (names, "read_version", "(text)"), (names, "read_path", "(text)"),
    (sight, "shows", "(registry, package, version, chain)"), (sight, "sees", "(registry, package, version, chain)"),
    (sight, "shown_labels", "(registry, package, version)"), (sight, "seen_labels", "(registry, package, version)"),
    (sight, "seen_chains", "(registry, package, version)"),
    (resolving, "resolve", "(project)"), (resolving, "is_solvable", "(project)"), (resolving, "resolve_all", "(*projects)"),
    (resolving, "oldest_release", "(project, path)"),
    (facts, "is_fact", "(project, value)"), (facts, "holds", "(linkage, fact)"),
    (judging, "is_derivation", "(project, value)"), (judging, "first_wrong", "(project, rows)"),
    (judging, "needed_rows", "(project, rows)"),
    (deriving, "derive", "(project, fact)"), (deriving, "can_derive", "(project, fact)"),
    (comparing, "are_joinable", "(linkage, path, other)"), (comparing, "joined", "(linkage)"),
    (comparing, "is_below", "(one, other)"), (comparing, "changes", "(old, new)"),
    (code, "is_kind", "(value)"), (code, "is_expression", "(value)"), (code, "is_function", "(value)"),
    (code, "calls_in", "(expression)"),
    (library, "kind_in", "(library, package, version, expression, *, parameters=())"),
    (library, "main_kind", "(project, expression)"),
    (running, "run", "(linkage, expression, *, limit=1000)"), (running, "calls", "(linkage, expression, *, limit=1000)"),
    (running, "stray_calls", "(linkage, expression, *, limit=1000)"),
    (mixing, "mixing", "(linkage)"), (mixing, "is_mixing", "(linkage, value)"),
    (edits, "perform", "(workspace, *edits)"), (edits, "tried", "(workspace, *edits)"),
    (code_texts, "library_text", "(library)"), (code_texts, "read_library", "(text)"),
    (code_texts, "expression_text", "(expression)"), (code_texts, "function_text", "(function)"),
    (code_texts, "read_expression", "(text)"), (code_texts, "read_function", "(text)"),
    (histories, "save", "(workspace)"), (histories, "load", "(text)"),
]
METHODS = {
    registry.Registry: [
        ("__init__", "(self)"), ("clone", "(self)"), ("declare", "(self, package, *, sole=False)"),
        ("publish", "(self, package, version, needs=())"), ("packages", "(self)"), ("is_sole", "(self, package)"),
        ("versions", "(self, package)"), ("has_package", "(self, value)"), ("has_label", "(self, value)"),
        ("has_release", "(self, package, version)"), ("needs", "(self, package, version)"), ("releases", "(self)"),
        ("__eq__", "(self, other)"), ("__len__", "(self)"), ("__str__", "(self)"), ("__repr__", "(self)"),
    ],
    projects.Project: [
        ("__init__", "(self, registry, needs=(), *, locks=())"), ("registry", "(self)"), ("needs", "(self)"), ("locks", "(self)"),
        ("sees", "(self, chain)"), ("with_need", "(self, package, version)"), ("without_need", "(self, label)"),
        ("with_locks", "(self, locks)"), ("__eq__", "(self, other)"), ("__len__", "(self)"), ("__repr__", "(self)"),
    ],
    linkages.Linkage: [
        ("__init__", "(self, project, rows)"), ("project", "(self)"), ("rows", "(self)"), ("copies", "(self)"),
        ("has_path", "(self, value)"), ("first_path", "(self, path)"), ("release", "(self, path)"), ("links", "(self, path)"),
        ("are_copies", "(self, path, other)"), ("seen", "(self, path)"), ("paths", "(self)"), ("sight_conflict", "(self)"),
        ("sole_conflict", "(self)"), ("lock_conflict", "(self)"), ("__eq__", "(self, other)"), ("__len__", "(self)"),
        ("__repr__", "(self)"),
    ],
    library.Library: [
        ("__init__", "(self)"), ("clone", "(self)"), ("registry", "(self)"),
        ("publish", "(self, package, version, needs=(), functions=())"), ("functions", "(self, package, version)"),
        ("signature", "(self, package, version, name)"), ("__eq__", "(self, other)"), ("__repr__", "(self)"),
    ],
    workspaces.Workspace: [
        ("__init__", "(self, library)"), ("clone", "(self)"), ("library", "(self)"), ("project", "(self)"), ("edits", "(self)"),
        ("declare", "(self, package, *, sole=False)"), ("publish", "(self, package, version, needs=(), functions=())"),
        ("add_need", "(self, package, version)"), ("raise_need", "(self, package, version)"), ("drop_need", "(self, label)"),
        ("unlock", "(self)"), ("lock", "(self)"), ("undo", "(self, count=1)"), ("why", "(self, path)"),
        ("why_same", "(self, path, other)"), ("run", "(self, expression)"), ("__eq__", "(self, other)"), ("__len__", "(self)"),
        ("__repr__", "(self)"),
    ],
    console.Console: [
        ("__init__", "(self, library)"), ("workspace", "(self)"), ("execute", "(self, command)"), ("run", "(self, commands)"),
        ("log", "(self)"),
    ],
}
CLASS_METHODS = [
    (registry.Registry, "read", "(text)"), (registry.Registry, "of", "(**packages)"), (library.Library, "over", "(registry)"),
]
# Each class with its file and its base class.
CLASSES = [
    (registry.Registry, registry, object), (projects.Project, projects, object), (linkages.Linkage, linkages, object),
    (library.Library, library, registry.Registry), (workspaces.Workspace, workspaces, object), (console.Console, console, object),
]
PROPERTIES = [
    (linkages.Linkage, "is_solution", False), (workspaces.Workspace, "resolution", False),
    (workspaces.Workspace, "step_limit", True),
]
VALUES = [
    (names, "MOST_LABELS", 10), (registry.Registry, "MOST_PACKAGES", 10), (registry.Registry, "MOST_RELEASES", 40),
    (registry.Registry, "MOST_NEEDS", 6), (projects.Project, "MOST_LOCKS", 400), (linkages.Linkage, "MOST_COPIES", 400),
    (code, "OWN", "own"), (code, "MOST_DEPTH", 5), (code, "MOST_PARTS", 30), (code, "MOST_PARAMETERS", 4),
    (library.Library, "MOST_FUNCTIONS", 4),
    (judging, "RULES", ("main", "need", "less", "lock", "sight", "sole", "below", "transfer", "turn", "join", "absurd")),
]
GENERATORS = [registry.Registry.releases, sight.seen_chains, linkages.Linkage.paths, code.calls_in, running.calls]


class InterfaceTest(unittest.TestCase):
    def test_functions_are_defined_in_their_files(self):
        for module, name, arguments in FUNCTIONS:
            function = vars(module)[name]
            self.assertTrue(inspect.isfunction(function))
            self.assertEqual(module.__name__, function.__module__)
            self.assertEqual(arguments, str(inspect.signature(function)))

    def test_methods_are_defined_in_the_class(self):
        for listed, methods in METHODS.items():
            for name, arguments in methods:
                self.assertEqual(arguments, str(inspect.signature(vars(listed)[name])))

    def test_class_methods(self):
        for listed, name, arguments in CLASS_METHODS:
            self.assertIsInstance(vars(listed)[name], classmethod)
            self.assertEqual(arguments, str(inspect.signature(getattr(listed, name))))

    def test_classes_are_defined_in_their_files(self):
        for listed, module, base in CLASSES:
            self.assertIs(listed, vars(module)[listed.__name__])
            self.assertEqual((module.__name__, (base,)), (listed.__module__, listed.__bases__))

    def test_values(self):
        for place, name, value in VALUES:
            self.assertEqual(value, vars(place)[name])

    def test_properties(self):
        for listed, name, is_assigned in PROPERTIES:
            self.assertIsInstance(vars(listed)[name], property)
            self.assertEqual(is_assigned, vars(listed)[name].fset is not None)

    def test_generators(self):
        for generator in GENERATORS:
            self.assertTrue(inspect.isgeneratorfunction(generator))


if __name__ == "__main__":
    unittest.main()
