"""Those rules of the language of the package that can be seen in its files one by one."""

import ast
import builtins
import pathlib
import re
import unittest

FOLDER = pathlib.Path(__file__).resolve().parent.parent / "leastlinks"
BUILTINS = """len range enumerate zip min max sum abs sorted reversed int str bool bytes list tuple dict set frozenset isinstance
ord repr any all divmod map iter next Exception ValueError TypeError KeyError IndexError LookupError ZeroDivisionError
ArithmeticError OverflowError RuntimeError NotImplementedError AttributeError StopIteration NotImplemented""".split()
METHODS = """append clear copy count endswith extend find get index insert isalnum isalpha isdigit islower isspace isupper
items join keys ljust lower lstrip partition pop remove replace reverse rfind rjust rpartition rsplit rstrip setdefault split
splitlines startswith strip update upper values zfill bit_length title capitalize swapcase casefold expandtabs removeprefix
removesuffix rindex isascii isdecimal isnumeric istitle isidentifier isprintable add discard""".split()
DOUBLE = ["__init__", "__eq__", "__repr__", "__str__", "__len__"]
DECORATORS = ["classmethod", "staticmethod", "property"]
STATEMENTS = (ast.Import, ast.Global, ast.AsyncFunctionDef, ast.AsyncFor, ast.AsyncWith, ast.Await, ast.AnnAssign, ast.Div)
BARRED_NAMES = """register mro elements open input law version_info with_traceback add_note attrgetter breakpoint builtins
compile copyright credits delattr dir eval exec exit gc getattr globals hasattr help id importlib license locals methodcaller os
quit setattr vars sys""".split()
BARRED_ATTRIBUTES = """items keys values pop update append clear extend insert remove reverse setdefault sort args encode
decode hex fromhex format format_map mro as_integer_ratio bit_count conjugate from_bytes is_integer to_bytes""".split()
MODIFYING = "append clear extend insert pop remove reverse setdefault update add discard".split()
BARRED_WORDS = """type typing typing_extensions enum Enum IntEnum StrEnum Flag IntFlag Generic Protocol ABC ABCMeta namedtuple
NamedTuple TypedDict TYPE_CHECKING abstractmethod dataclass overload contextmanager""".split()


def sources():
    """The text of each file of the package, by its name."""
    return {path.stem: path.read_text() for path in sorted(FOLDER.glob("*.py"))}


def nodes(text, *kinds):
    """The nodes of these kinds in a file."""
    return [node for node in ast.walk(ast.parse(text)) if isinstance(node, kinds)]


def bound_names(text):
    """Every name that a file binds: functions, classes, imports, parameters, variables."""
    names = [node.name for node in nodes(text, ast.FunctionDef, ast.ClassDef, ast.alias)]
    names += [node.arg for node in nodes(text, ast.arg)]
    return names + [node.id for node in nodes(text, ast.Name) if isinstance(node.ctx, ast.Store)]


def local_names(text):
    """The parameters and local variables of a file."""
    names = []
    for function in nodes(text, ast.FunctionDef):
        names += [node.arg for node in ast.walk(function) if isinstance(node, ast.arg)]
        names += [node.id for node in ast.walk(function) if isinstance(node, ast.Name) and isinstance(node.ctx, ast.Store)]
    return names


def functions_above(text, line):
    """The functions at the module level of a file that are defined above a line."""
    return [node.name for node in ast.parse(text).body if isinstance(node, ast.FunctionDef) and node.lineno < line]


def docstrings(text):
    """The nodes of the docstrings of a file."""
    found = []
    for node in nodes(text, ast.Module, ast.ClassDef, ast.FunctionDef):
        if node.body and isinstance(node.body[0], ast.Expr) and isinstance(node.body[0].value, ast.Constant):
            found.append(node.body[0].value)
    return found


def own_nodes(function):
    """The nodes of a function that do not belong to a function nested in it."""
    for node in ast.iter_child_nodes(function):
        if not isinstance(node, (ast.FunctionDef, ast.Lambda)):
            yield node
            yield from own_nodes(node)


def changed_in(loop):
    """What the body of a loop assigns an item of, deletes an item of, or calls a method on that modifies it."""
    for node in ast.walk(loop):
        if isinstance(node, ast.Subscript) and isinstance(node.ctx, (ast.Store, ast.Del)):
            yield node.value
        if isinstance(node, ast.Call) and isinstance(node.func, ast.Attribute) and node.func.attr in MODIFYING:
            yield node.func.value


class LanguageTest(unittest.TestCase):
    def test_files(self):
        for path in FOLDER.rglob("*"):
            if "__pycache__" not in path.parts:
                self.assertRegex(path.name, r"^([a-z][a-z0-9_]*|__init__|__main__)\.py$")
        for name, text in sources().items():
            self.assertRegex(text, r"\A[ -~\n]*\Z", name)

    def test_sizes(self):
        for name, text in sources().items():
            self.assertLessEqual(len(text.split("\n")), 399, name)
            self.assertLessEqual(max(len(line) for line in text.split("\n")), 120, name)
            for node in nodes(text, ast.FunctionDef):
                self.assertLessEqual(node.end_lineno - node.lineno + 1, 40, node.name)

    def test_imports(self):
        texts = sources()
        for name, text in texts.items():
            for node in nodes(text, ast.ImportFrom):
                self.assertEqual(0, node.level)
                package, module = node.module.split(".")
                self.assertEqual("leastlinks", package)
                defined = nodes(texts[module], ast.FunctionDef, ast.ClassDef)
                plain = [node.targets[0].id for node in ast.parse(texts[module]).body if isinstance(node, ast.Assign)]
                for alias in node.names:
                    self.assertIsNone(alias.asname)
                    self.assertIn(alias.name, [node.name for node in defined] + plain)

    def test_no_two_files_import_from_each_other(self):
        uses = {name: {node.module.split(".")[1] for node in nodes(text, ast.ImportFrom)} for name, text in sources().items()}
        while uses:
            free = [name for name in uses if not uses[name] & set(uses)]
            self.assertTrue(free, uses)
            for name in free:
                del uses[name]

    def test_module_level(self):
        for text in sources().values():
            for node in ast.parse(text).body[1:]:
                self.assertIsInstance(node, (ast.ImportFrom, ast.FunctionDef, ast.ClassDef, ast.Assign))
                if isinstance(node, ast.Assign):
                    self.assertEqual(1, len(node.targets))
                    self.assert_plain(node.value, functions_above(text, node.lineno))
            names = [node.name for node in ast.parse(text).body if isinstance(node, (ast.FunctionDef, ast.ClassDef))]
            names += [alias.name for node in nodes(text, ast.ImportFrom) for alias in node.names]
            names += [node.targets[0].id for node in ast.parse(text).body if isinstance(node, ast.Assign)]
            self.assertEqual(sorted(set(names)), sorted(names))

    def assert_plain(self, value, functions):
        """A plain value, or a tuple, list or dict of such and of functions."""
        parts = [value]
        if isinstance(value, (ast.Tuple, ast.List)):
            parts = value.elts
        if isinstance(value, ast.Dict):
            parts = value.keys + value.values
        for part in parts:
            if not isinstance(part, ast.Name) or part is value:
                ast.literal_eval(part)
                self.assertFalse(part is not value and isinstance(part, (ast.List, ast.Dict)))
            else:
                self.assertIn(part.id, functions)

    def test_statements_and_values(self):
        for text in sources().values():
            self.assertEqual([], nodes(text, *STATEMENTS))
            for node in nodes(text, ast.Constant):
                self.assertNotIsInstance(node.value, (float, complex))
                if isinstance(node.value, str):
                    self.assertNotIn(chr(37), node.value)
            for node in nodes(text, ast.FunctionDef):
                for decorator in node.decorator_list:
                    self.assertIn(ast.unparse(decorator).split(".")[-1], DECORATORS + ["setter"])

    def test_names(self):
        for text in sources().values():
            for name in bound_names(text):
                self.assertTrue(name in DOUBLE or re.match(r"^(_|_?[A-Za-z][A-Za-z0-9_]*)$", name), name)
                self.assertNotIn(name, BARRED_NAMES)
            classes_and_imports = [node.name for node in nodes(text, ast.ClassDef, ast.alias)]
            for name in local_names(text):
                self.assertNotIn(name, classes_and_imports + dir(builtins))

    def test_builtins_and_methods(self):
        methods = METHODS + DOUBLE + bound_names("\n".join(sources().values()))
        for text in sources().values():
            for node in nodes(text, ast.Name):
                if hasattr(builtins, node.id):
                    self.assertIn(node.id, BUILTINS + DECORATORS + ["super"])
            for node in nodes(text, ast.Call):
                if isinstance(node.func, ast.Attribute):
                    self.assertIn(node.func.attr, methods)

    def test_generators(self):
        functions = [node for text in sources().values() for node in nodes(text, ast.FunctionDef)]
        made = [node.name for node in functions if any(isinstance(each, (ast.Yield, ast.YieldFrom)) for each in own_nodes(node))]
        names = [node.name for node in functions]
        for text in sources().values():
            self.assertEqual([], nodes(text, ast.GeneratorExp))
            for node in nodes(text, ast.Attribute):
                if isinstance(node.ctx, ast.Store):
                    self.assertNotIn(node.attr, made)
        for name in made:
            self.assertEqual(1, names.count(name), name)
            self.assertNotIn(name, METHODS)

    def test_attributes_and_methods(self):
        texts = "\n".join(sources().values())
        methods = [node for each in nodes(texts, ast.ClassDef) for node in each.body if isinstance(node, ast.FunctionDef)]
        decorated = [(node.name, [ast.unparse(each) for each in node.decorator_list]) for node in methods]
        properties = [name for name, decorators in decorated if decorators == ["property"]]
        setters = [name for name, decorators in decorated if decorators == [f"{name}.setter"]]
        plain = [name for name, decorators in decorated if decorators not in (["property"], [f"{name}.setter"])]
        stored = {node.attr for node in nodes(texts, ast.Attribute) if isinstance(node.ctx, ast.Store)}
        self.assertEqual(set(), stored & set(plain + BARRED_ATTRIBUTES))
        # Each class with a property that is assigned has its setter, and nothing else stores an attribute of that name.
        for name in stored & set(properties):
            self.assertEqual(properties.count(name), setters.count(name), name)
        self.assertEqual(set(), set(plain) & set(properties))

    def test_lambdas(self):
        for text in sources().values():
            lines = [node.lineno for node in nodes(text, ast.Lambda)]
            self.assertEqual(sorted(set(lines)), sorted(lines))

    def test_loops_modify_nothing_that_they_iterate_over(self):
        for text in sources().values():
            for loop in nodes(text, ast.For):
                over = loop.iter
                if isinstance(over, ast.Call) and isinstance(over.func, ast.Name) and over.func.id in ("enumerate", "reversed"):
                    over = over.args[0]
                if isinstance(over, (ast.Name, ast.Attribute)):
                    self.assertEqual([], [each for each in changed_in(loop) if ast.unparse(each) == ast.unparse(over)])

    def test_words(self):
        for text in sources().values():
            kept = [node for node in docstrings(text)]
            strings = [node.value for node in nodes(text, ast.Constant) if isinstance(node.value, str)]
            told = [node.value for node in kept]
            for value in strings:
                if value not in told:
                    self.assertEqual([], [word for word in re.findall(r"\w+", value) if word in BARRED_WORDS])
            for node in nodes(text, ast.Name, ast.Attribute):
                self.assertNotIn(node.id if isinstance(node, ast.Name) else node.attr, BARRED_WORDS)


if __name__ == "__main__":
    unittest.main()
