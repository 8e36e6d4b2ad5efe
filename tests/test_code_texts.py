import random
import unittest

from leastlinks.code_texts import expression_text, function_text, library_text, read_expression, read_function, read_library
from leastlinks.errors import InvalidCode, InvalidText
from leastlinks.library import Library
from leastlinks.registry import Registry
from tests.coding import drawn_code, drawn_library, inks, signatures
from tests.drawing import drawn_registry
from tests.reading import changed_characters, changed_lines, changed_words, expression_meant, expression_words
from tests.reading import function_meant, function_words, library_meant, library_words
from tests.support import ErrorCase, everything, odd_values, without_kind
from tests.test_code import NO_EXPRESSIONS, nested, wide

FONT = ("font", 1)
MAKE = ("make", 1)
EXPRESSIONS = {
    "(make 0)": ("make", 0), "(make 7)": ("make", 7), "(make -2)": ("make", -2),
    "(make 100000000000000000000)": ("make", 10 ** 20),
    "(make -100000000000000000000)": ("make", -(10 ** 20)), "(param 0)": ("param", 0), "(param 10)": ("param", 10),
    "(plus (make 1) 0)": ("plus", MAKE, 0), "(plus (make -1) -30)": ("plus", ("make", -1), -30),
    "(plus (plus (param 2) 1) 2)": ("plus", ("plus", ("param", 2), 1), 2),
    "(call - f)": ("call", None, "f", ()), "(call font/1 new)": ("call", FONT, "new", ()),
    "(call a/0 b (make 1))": ("call", ("a", 0), "b", (MAKE,)),
    "(call - abcdefgh (make 1) (param 0) (make 1) (call - f))":
        ("call", None, "abcdefgh", (MAKE, ("param", 0), MAKE, ("call", None, "f", ()))),
    "(do (make 1) (param 0))": ("do", MAKE, ("param", 0)),
    "(if (make 1) (param 0) (make 0))": ("if", MAKE, ("param", 0), ("make", 0)),
    "(call make/10 make)": ("call", ("make", 10), "make", ()), "(call own/0 own (make 1))": ("call", ("own", 0), "own", (MAKE,)),
    "(call - call (call call/1 call))": ("call", None, "call", (("call", ("call", 1), "call", ()),)),
    "(call - package)": ("call", None, "package", ()),
    "(call sole/1 sole)": ("call", ("sole", 1), "sole", ()), "(call - if)": ("call", None, "if", ()),
}
FUNCTIONS = {
    "f -> own (make 0)": ("f", (), "own", ("make", 0)),
    "pick own -> font/1 (call font/1 new)": ("pick", ("own",), FONT, ("call", FONT, "new", ())),
    "own own own own own -> own (make 1)": ("own", ("own",) * 4, "own", MAKE),
    "make a/0 own b/12 -> a/0 (param 0)": ("make", (("a", 0), "own", ("b", 12)), ("a", 0), ("param", 0)),
    "sole own/1 -> own/1 (param 0)": ("sole", (("own", 1),), ("own", 1), ("param", 0)),
    "release -> package/0 (call - x)": ("release", (), ("package", 0), ("call", None, "x", ())),
    "call -> call/1 (do (make 1) (call - call))": ("call", (), ("call", 1), ("do", MAKE, ("call", None, "call", ()))),
}
NO_EXPRESSION_TEXTS = """|(make)|(make 1|make 1)|make 1|(make 1))|((make 1)|((make 1))|(make 1 2)|(make one)
|(make +1)|(make -0)|(make 01)|(make -01)|(make 1.0)|(make (make 1))|(make 1_0)|(Make 1)|(made 1)|(1)|()|( )
|( make 1)|(make 1 )|(make  1)| (make 1)|(make 1) |(make 1)(make 1)|(make 1) (make 1)|(param -1)|(param 01)|(param)
|(param own)|(param 0 0)|(plus 1 (make 1))|(plus (make 1))|(plus (make 1)1)|(plus (make 1)  1)|(plus (make 1) 1 1)
|(plus(make 1) 1)|(plus (make 1) (make 1))|(plus (make 1) -0)|(call f)|(call)|(call -)|(call - F)
|(call - abcdefghi)|(call - f f)|(call - f ())|(call font new)|(call font/ new)|(call font/01 new)
|(call font/-1 new)|(call font/1.0 new)|(call /1 new)|(call Font/1 new)|(call own new)|(call -- f)|(call None f)
|(call font/1 (make 1))|(call - f 1)|(call - f(make 1))|(call - f (make 1)(make 1))|(call - f  (make 1))
|(call - f (make 1) )|(do (make 1))|(do (make 1) (make 1) (make 1))|(do(make 1) (make 1))|(do (make 1)(make 1))
|(do 1 1)|(if (make 1) (make 1))|(if (make 1) (make 1) (make 1) (make 1))|(make 1)x|x(make 1)|(call - f | (make 1))
|->|own|font/1|(own)|(make 1;)|[make 1]|(make 1]|)(|)|(|-""".replace("\n", "").split("|")


class ExpressionTextTest(ErrorCase):
    def test_each_form_both_ways(self):
        for text, expression in EXPRESSIONS.items():
            self.assertEqual([text, expression], [expression_text(expression), read_expression(text)])
        self.assertEqual(["(make 1)", MAKE], [expression_text(expression=MAKE), read_expression(text="(make 1)")])

    def test_values_that_are_no_expressions(self):
        for value in NO_EXPRESSIONS + odd_values() + [nested(6), wide(31), "(make 1)", ("do", MAKE, ("make", True))]:
            self.assert_fails(InvalidCode, {"value": value}, expression_text, value)

    def test_values_that_are_no_strings(self):
        for value in without_kind(odd_values(), str) + [MAKE, b"(make 1)", ["(make 1)"], ("(make 1)",)]:
            self.assert_fails(InvalidText, {"line": 0}, read_expression, value)

    def test_strings_that_are_no_texts(self):
        strings = NO_EXPRESSION_TEXTS + list(FUNCTIONS) + [value for value in odd_values() if isinstance(value, str)]
        for text in strings + ["(make 1)\n", "\n(make 1)", "(make\n1)", "(make 1)\n(make 1)"]:
            self.assert_fails(InvalidText, {"line": 1}, read_expression, text)

    def test_five_deep_thirty_expressions_four_arguments(self):
        for expression, right in [(nested(5), True), (nested(6), False), (wide(30), True), (wide(31), False),
                                  (("call", None, "f", (MAKE,) * 4), True),
                                  (("call", None, "f", (MAKE,) * 5), False), (("if", MAKE, nested(4), MAKE), True),
                                  (("if", MAKE, nested(5), MAKE), False)]:
            text = expression_words(expression)
            if right:
                self.assertEqual([text, expression], [expression_text(expression), read_expression(text)])
            else:
                self.assert_fails(InvalidText, {"line": 1}, read_expression, text)

    def test_texts_that_are_very_deep_or_long(self):
        for text in ["(plus " * 3000, "(" * 20000, "(do (make 1) " * 1500 + ")" * 1500, ")" * 20000,
                     "(call - f" + " (make 1)" * 2000 + ")", " " * 20000,
                     "(make " + "1" * 19000, "(make 1) " * 2000]:
            self.assert_fails(InvalidText, {"line": 1}, read_expression, text)
            self.assert_fails(InvalidText, {"line": 1}, read_function, "f -> own " + text)
            self.assert_fails(InvalidText, {"line": 1}, read_function, text)

    def test_texts_with_one_thing_changed(self):
        chance = random.Random(101)
        read = 0
        for text in list(EXPRESSIONS) * 5:
            for changed in changed_characters(chance, text, 40) + changed_words(text):
                right = expression_meant(changed)
                read += right is not None
                if right is None:
                    self.assert_fails(InvalidText, {"line": 1}, read_expression, changed)
                else:
                    self.assertEqual([right, changed], [read_expression(changed), expression_text(right)])
        self.assertGreater(read, 300)


class FunctionTextTest(ErrorCase):
    def test_functions_both_ways(self):
        for text, function in FUNCTIONS.items():
            self.assertEqual([text, function], [function_text(function), read_function(text)])
        self.assertEqual(["f -> own (make 1)", ("f", (), "own", MAKE)],
                         [function_text(function=("f", (), "own", MAKE)), read_function(text="f -> own (make 1)")])

    def test_values_that_are_no_functions(self):
        wrong = [("f", (), "own"), ["f", (), "own", MAKE], ("f", (), "own", nested(6)), ("f", ("own",) * 5, "own", MAKE),
                 MAKE, "f -> own (make 1)"]
        for value in wrong + odd_values() + [("f", (), "own", body) for body in NO_EXPRESSIONS]:
            self.assert_fails(InvalidCode, {"value": value}, function_text, value)

    def test_values_that_are_no_texts(self):
        for value in without_kind(odd_values(), str) + [("f", (), "own", MAKE), b"f -> own (make 1)"]:
            self.assert_fails(InvalidText, {"line": 0}, read_function, value)
        for text in ["", "f", "f ->", "f -> own", "-> own (make 1)", " -> own (make 1)", "f own (make 1)", "f -> (make 1)",
                     "f -> own own (make 1)", "f ->own (make 1)",
                     "f->own (make 1)", "f -> own(make 1)", "f  -> own (make 1)", "f -> own  (make 1)",
                     " f -> own (make 1)", "f -> own (make 1) ", "F -> own (make 1)",
                     "abcdefghi -> own (make 1)", "f font -> own (make 1)", "f font/01 -> own (make 1)",
                     "f -> font/1.0 (make 1)", "f - -> own (make 1)",
                     "f -> own -> own (make 1)", "f -> own (make 1) (make 1)", "f own own own own own -> own (make 1)",
                     "f Own -> own (make 1)", "f -> own make 1",
                     "| f -> own (make 1)", "f -> own (make 1) |", "f -> own (make 1)\n", "f -> -> (make 1)",
                     "f own, own -> own (make 1)", "f (own) -> own (make 1)"]:
            self.assert_fails(InvalidText, {"line": 1}, read_function, text)
        for body in NO_EXPRESSION_TEXTS:
            self.assert_fails(InvalidText, {"line": 1}, read_function, "f own -> own " + body)

    def test_the_bounds_of_its_body(self):
        for body, right in [(nested(5), True), (nested(6), False), (wide(30), True), (wide(31), False)]:
            text = "f -> own " + expression_words(body)
            if right:
                self.assertEqual(("f", (), "own", body), read_function(text))
            else:
                self.assert_fails(InvalidText, {"line": 1}, read_function, text)

    def test_texts_with_one_thing_changed(self):
        chance = random.Random(102)
        read = 0
        for text in list(FUNCTIONS) * 8:
            for changed in changed_characters(chance, text, 40) + changed_words(text):
                right = function_meant(changed)
                read += right is not None
                if right is None:
                    self.assert_fails(InvalidText, {"line": 1}, read_function, changed)
                else:
                    self.assertEqual([right, changed], [read_function(changed), function_text(right)])
        self.assertGreater(read, 200)

    def test_drawn_functions(self):
        chance = random.Random(103)
        for _ in range(60):
            library = drawn_library(chance)
            for release in library.releases():
                for function in library.functions(*release):
                    self.assertEqual([function_words(function), function],
                                     [function_text(function), read_function(function_words(function))])
                known = signatures(library, library.needs(*release), library.functions(*release))
                code = drawn_code(chance, known, ("own",), "own") or MAKE
                self.assertEqual([expression_words(code), code], [expression_text(code), read_expression(expression_words(code))])


TEXT = """package font
release font 1.0 | new -> own (make 7)
release font 1.1 | new -> own (make -8) | add own own -> own (plus (param 1) 1)
package page sole
release page 0.0
release page 1.0 font/1.0+ | pick -> font/1 (call font/1 new)
release page 1.1 font/1.1+ | pick -> font/1 (do (make 0) (call font/1 new)) | both font/1 -> font/1 (call font/1 add \
(param 0) (call - pick))
package site
release site 2.3 font/1.0 page/0.0 page/1.1+
"""


class LibraryTextTest(ErrorCase):
    def assert_read(self, text):
        """The text is read as what it says, or refused at the line that is due."""
        right = library_meant(text)
        if isinstance(right, int):
            self.assert_fails(InvalidText, {"line": right}, read_library, text)
        else:
            library = read_library(text)
            self.assertEqual([everything(right), text], [everything(library), library_text(library)])
        return not isinstance(right, int)

    def test_the_text_both_ways(self):
        library = read_library(TEXT)
        self.assertIs(Library, library.__class__)
        self.assertEqual([TEXT, TEXT], [library_text(library), library_words(library)])
        self.assertEqual([TEXT, library], [library_text(library=library), read_library(text=TEXT)])
        self.assertEqual([("pick", (), FONT, ("call", FONT, "new", ()))], library.functions("page", (1, 0)))
        self.assertEqual([("font", (1, 0), False), ("page", (0, 0), False), ("page", (1, 1), True)],
                         library.needs("site", (2, 3)))
        self.assertEqual("package ink\nrelease ink 1.0 | drop -> own (make 3) | more own -> own (plus (param 0) 1)\n"
                         "package pen\nrelease pen 1.0 ink/1.0+ | fill -> ink/1 (call ink/1 drop)\n", library_text(inks()))

    def test_libraries_without_functions(self):
        chance = random.Random(104)
        self.assertEqual(["", Library()], [library_text(Library()), read_library("")])
        for _ in range(40):
            registry = drawn_registry(chance)
            library = Library.over(registry)
            text = library_text(library)
            self.assertEqual([str(registry), library, registry], [text, read_library(str(registry)), Registry.read(text)])

    def test_names_that_are_words_of_the_texts(self):
        text = ("package sole sole\nrelease sole 0.0 | make -> own (make 1) | own own -> own (param 0)\npackage package\n"
                "release package 0.0 sole/0.0+ | call own -> sole/0 (call sole/0 own (call sole/0 make))"
                " | sole -> own (call - sole)\n")
        self.assert_fails(InvalidText, {"line": 4}, read_library, text)
        right = text.replace("(call - sole)", "(make 2)")
        self.assertEqual(right, library_text(read_library(right)))
        self.assertEqual("package release\npackage own\n", library_text(read_library("package release\npackage own\n")))

    def test_drawn_libraries(self):
        chance = random.Random(105)
        for _ in range(80):
            library = drawn_library(chance)
            text = library_text(library)
            self.assertEqual([library_words(library), library], [text, read_library(text)])

    def test_values_that_are_no_strings(self):
        for value in without_kind(odd_values(), str) + [TEXT.encode(), [TEXT], read_library(TEXT), TEXT.split("\n")]:
            self.assert_fails(InvalidText, {"line": 0}, read_library, value)

    def test_each_beginning_of_lines_is_a_text_and_the_last_line_needs_its_end(self):
        lines = TEXT.split("\n")[:-1]
        for count in range(len(lines) + 1):
            text = "".join([line + "\n" for line in lines[:count]])
            self.assertEqual(text, library_text(read_library(text)))
            if count:
                self.assert_fails(InvalidText, {"line": count}, read_library, text[:-1])
            for more in ["x", " ", "package", "release", "package zz"]:
                self.assert_fails(InvalidText, {"line": count + 1}, read_library, text + more)

    def test_lines_that_publish_would_refuse(self):
        lines = ["package font", "release font 1.0 | new -> own (make 7)", "package page",
                 "release page 1.0 font/1.0 | f -> own (make 1)"]
        for line in ["release page 1.0 font/1.0 | f -> own (make 1)", "release page 0.9 font/1.0",
                     "release page 1.1 | f -> own (make 1)", "release page 1.1 font/1.0",
                     "release page 1.1 font/1.0 | g -> own (make 1)", "release page 1.1 font/1.0 | f own -> own (make 1)",
                     "release page 2.0 font/1.1",
                     "release page 2.0 | f -> own (param 0)", "release page 2.0 | f -> font/1 (call font/1 new)",
                     "release page 2.0 font/1.0 | f -> font/1 (call font/1 new)",
                     "release page 2.0 font/1.0+ | f -> font/1 (make 1)",
                     "release page 2.0 | f -> own (make 1) | f -> own (make 1)", "release font 2.0",
                     "release page 2.0 | g -> own (call - f)", "release page 2.0 page/1.0", "package font",
                     "package page sole", "release lid 0.0",
                     "release page 2.0" + "".join([f" | {name} -> own (make 1)" for name in "abcde"])]:
            self.assert_fails(InvalidText, {"line": 5}, read_library, "".join([each + "\n" for each in lines + [line]]))
            self.assert_fails(InvalidText, {"line": 5}, read_library,
                              "".join([each + "\n" for each in lines + [line, "nothing"]]))
        for line in ["release page 1.1 font/1.0 | g -> own (make 1) | f -> own (make 1)",
                     "release page 2.0 font/1.0+ | f -> font/1 (call font/1 new)",
                     "release page 2.0" + "".join([f" | {name} -> own (make 1)" for name in "abcd"]), "package lid sole"]:
            text = "".join([each + "\n" for each in lines + [line]])
            self.assertEqual(text, library_text(read_library(text)))

    def test_lines_of_another_form(self):
        lines = ["package font", "release font 1.0 | new -> own (make 7)"]
        for line in ["release font 2.0 |", "release font 2.0 | ", "release font 2.0|f -> own (make 1)",
                     "release font 2.0 |f -> own (make 1)",
                     "release font 2.0| f -> own (make 1)", "release font 2.0  | f -> own (make 1)",
                     "release font 2.0 |  f -> own (make 1)",
                     "release font 2.0 | f -> own (make 1) ", "release font 2.0 | f -> own (make 1) |",
                     "release font 2.0 || f -> own (make 1)",
                     "release font 2.0 | | f -> own (make 1)", "release font 2.0 f -> own (make 1)", "release | font 2.0",
                     "release | f -> own (make 1)",
                     "package lid | f -> own (make 1)", "package lid |", "| release font 2.0",
                     "release font 2.0 | f -> own (make 1) font/1.0",
                     "release font 2.0 | f -> own (make 1) | g",
                     "release font 2.0 | " + "f -> own " + expression_words(nested(6)),
                     "release font 2.0 | " + "f -> own " + expression_words(wide(31)),
                     "release font 2.0 | f own own own own own -> own (make 1)",
                     "need font/1.0", "declare lid", "publish font 2.0", "lock", ""]:
            self.assert_fails(InvalidText, {"line": 3}, read_library, "".join([each + "\n" for each in lines + [line]]))

    def test_texts_with_one_thing_changed(self):
        chance = random.Random(106)
        texts = changed_lines(TEXT) + changed_words(TEXT) + changed_characters(chance, TEXT, 1500)
        read = sum([self.assert_read(text) for text in texts])
        self.assertGreater(read, 50)

    def test_drawn_texts_with_one_thing_changed(self):
        chance = random.Random(107)
        for _ in range(15):
            text = library_text(drawn_library(chance))
            texts = chance.sample(changed_lines(text), 20) + chance.sample(changed_words(text), 40)
            for changed in texts + changed_characters(chance, text, 40):
                self.assert_read(changed)

    def test_texts_of_registries_have_no_functions(self):
        self.assert_fails(InvalidText, {"line": 2}, Registry.read, TEXT)
        self.assert_fails(InvalidText, {"line": 2}, Registry.read, "package a\nrelease a 0.0 |\n")


if __name__ == "__main__":
    unittest.main()
