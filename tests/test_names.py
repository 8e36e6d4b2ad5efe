import collections
import unittest

from leastlinks.errors import InvalidPath, InvalidText, InvalidVersion
from leastlinks.names import MOST_LABELS, is_label, is_name, is_path, is_version
from leastlinks.names import path_text, read_path, read_version, version_text
from tests.support import ErrorCase, odd_values, without_kind

Pair = collections.namedtuple("Pair", "one other")
HUNDRED_DIGITS = 10 ** 100 - 1
NUMBERS = [0, 1, 2, 9, 10, 11, 19, 90, 99, 100, 101, 1234567890, 10 ** 29, 10 ** 30, 10 ** 99, HUNDRED_DIGITS]
NUMBER_TEXTS = [str(number) for number in NUMBERS]
WRONG_NUMBER_TEXTS = [
    "", "00", "01", "007", "0" * 100, "-1", "-0", "+1", "1_0", "0x1", "1e3", " 1", "1 ", "1\n", "\n1", "a", "1a", "a1",
    "True", "(1)", "1,0",
]
# No other character stands in a number.
for character in "\n !#$&'()*+,-:;<=?@AZ[]^_`axz{|}~":
    WRONG_NUMBER_TEXTS += [character, character + "1", "1" + character, "1" + character + "1"]


class FormsTest(unittest.TestCase):
    def test_names_of_one_to_eight_letters(self):
        for count in range(1, 9):
            self.assertIs(True, is_name("abcdefghijklm"[:count]))
            self.assertIs(True, is_name("z" * count))
        for letter in "abcdefghijklmnopqrstuvwxyz":
            self.assertIs(True, is_name(letter))

    def test_texts_that_are_no_names(self):
        for value in ["", "abcdefghi", "z" * 9, "a" * 20000, "Text", "texT", "te xt", " a", "a ", "a\n", "\na", "\n"]:
            self.assertIs(False, is_name(value), value)
        # The neighbours of a and z among the characters, too.
        for code in [10] + list(range(32, 127)):
            if not 97 <= code <= 122:
                self.assertIs(False, is_name(chr(code)))
                self.assertIs(False, is_name("a" + chr(code)))
                self.assertIs(False, is_name(chr(code) + "a"))

    def test_versions(self):
        for generation in NUMBERS:
            for step in NUMBERS:
                self.assertIs(True, is_version((generation, step)))
        for value in [(0, -1), (-1, 0), (0,), (0, 0, 0), (), [0, 0], "00", "0.0", ("0", "0"), (0, None), {0: 0, 1: 1}]:
            self.assertIs(False, is_version(value), value)

    def test_labels(self):
        for value in [("a", 0), ("text", 1), ("abcdefgh", 10 ** 29)]:
            self.assertIs(True, is_label(value))
        for value in [("a", -1), ("a", "0"), ("A", 0), ("abcdefghi", 0), ("", 0), ("a",), ("a", 0, 0), (0, "a"), ["a", 0],
                      "a0", "a/0", ("a", None), (None, 0), (("a", 0),), ("a", (0, 0))]:
            self.assertIs(False, is_label(value), value)

    def test_paths(self):
        label = ("a", 0)
        for count in range(11):
            self.assertIs(True, is_path((label,) * count))
        self.assertIs(True, is_path((("a", 0), ("b", 1), ("a", 0))))
        for value in [(label,) * 11, (label,) * 500, [label], [], label, "-", "", None, ((label,),), (label, None), (None,),
                      (label, ["b", 0]), (["b", 0], label), (label, ("b", -1)), {}, set()]:
            self.assertIs(False, is_path(value), value)

    def test_true_and_false_are_no_numbers(self):
        for flag in [True, False]:
            self.assertIs(False, is_version((flag, 0)))
            self.assertIs(False, is_version((0, flag)))
            self.assertIs(False, is_label(("a", flag)))
            self.assertIs(False, is_path((("a", 0), ("a", flag))))
            self.assertIs(False, is_path((("a", flag), ("a", 0))))

    def test_any_value_has_an_answer(self):
        for value in odd_values():
            self.assertIs(False, is_name(value))
            self.assertIs(False, is_version(value))
            self.assertIs(False, is_label(value))
            self.assertIs(False, is_path(value))

    def test_a_tuple_of_another_class_is_a_tuple(self):
        self.assertIs(True, is_version(Pair(1, 2)))
        self.assertIs(True, is_label(Pair("a", 2)))
        self.assertIs(False, is_version(Pair(1, True)))

    def test_arguments_by_name(self):
        self.assertEqual([True, True, True, True],
                         [is_name(value="a"), is_version(value=(0, 0)), is_label(value=("a", 0)), is_path(value=())])


class TextsTest(ErrorCase):
    def test_the_most_labels(self):
        self.assertEqual(10, MOST_LABELS)
        self.assertIs(int, type(MOST_LABELS))

    def test_versions_both_ways(self):
        for generation, first in zip(NUMBERS, NUMBER_TEXTS):
            for step, second in zip(NUMBERS, NUMBER_TEXTS):
                self.assertEqual(f"{first}.{second}", version_text((generation, step)))
                self.assertEqual((generation, step), read_version(f"{first}.{second}"))
        self.assertEqual([(0, 1), tuple, int, int], [
            read_version("0.1"), type(read_version("0.1")), type(read_version("0.1")[0]), type(read_version("0.1")[1])])

    def test_paths_both_ways(self):
        self.assertEqual(["-", ()], [path_text(()), read_path("-")])
        for count in range(1, 11):
            path = tuple(("abcdefgh"[:1 + k % 8], NUMBERS[k]) for k in range(count))
            text = ">".join("abcdefgh"[:1 + k % 8] + "/" + NUMBER_TEXTS[k] for k in range(count))
            self.assertEqual(text, path_text(path))
            self.assertEqual(path, read_path(text))
        self.assertEqual("a/0>a/0", path_text((("a", 0), ("a", 0))))
        for number, text in zip(NUMBERS, NUMBER_TEXTS):
            self.assertEqual((("abcdefgh", number),), read_path("abcdefgh/" + text))

    def test_eleven_labels(self):
        self.assert_fails(InvalidPath, {"value": (("a", 0),) * 11}, path_text, (("a", 0),) * 11)
        self.assertEqual((("a", 0),) * 10, read_path(">".join(["a/0"] * 10)))
        self.assert_fails(InvalidText, {"line": 1}, read_path, ">".join(["a/0"] * 11))

    def test_values_without_a_text(self):
        for value in odd_values():
            self.assert_fails(InvalidVersion, {"value": value}, version_text, value)
            self.assert_fails(InvalidPath, {"value": value}, path_text, value)
        self.assert_fails(InvalidVersion, {"value": (1, True)}, version_text, (1, True))
        self.assert_fails(InvalidPath, {"value": ("a", 0)}, path_text, ("a", 0))
        self.assert_fails(InvalidPath, {"value": []}, path_text, [])

    def test_values_that_are_no_strings(self):
        for value in without_kind(odd_values(), str):
            self.assert_fails(InvalidText, {"line": 0}, read_version, value)
            self.assert_fails(InvalidText, {"line": 0}, read_path, value)
        for value in [b"0.1", (0, 1), [], ()]:
            self.assert_fails(InvalidText, {"line": 0}, read_version, value)
            self.assert_fails(InvalidText, {"line": 0}, read_path, value)

    def test_texts_of_no_version(self):
        texts = ["", ".", "0", "0.", ".0", "0.0.0", "0..0", "0,0", "0.0.", ".0.0", "0 0", "0 .0", "0. 0", " 0.0", "0.0 ",
                 "0.0\n", "\n0.0", "0.\n0", "(0, 0)", "-", "a/0", "0/0", "1.0>2.0", "1" * 100, "." * 20000]
        for wrong in WRONG_NUMBER_TEXTS:
            texts += [f"{wrong}.0", f"0.{wrong}", f"{wrong}.{wrong}"]
        for text in texts:
            self.assert_fails(InvalidText, {"line": 1}, read_version, text)

    def test_texts_of_no_path(self):
        texts = ["", ">", "--", "- ", " -", "-\n", "->", ">-", "->a/0", "a/0>-", "a", "a/", "/0", "/", "a/0>", ">a/0", "a/0>>a/0",
                 "a/0/0", "a//0", "a/0 > a/0", "a/0> a/0", "a/0 >a/0", "a /0", "a/ 0", " a/0", "a/0 ", "a/0\n", "\na/0", "a/0>\na/0",
                 "A/0", "abcdefghi/0", "a1/0", "0/a", "a/0,a/0", "a/0.0", "a.0", "a/0+", "()", "a/0>b", "b>a/0"]
        for wrong in WRONG_NUMBER_TEXTS:
            texts += [f"a/{wrong}", f"a/{wrong}>b/0", f"b/0>a/{wrong}"]
        for text in texts:
            self.assert_fails(InvalidText, {"line": 1}, read_path, text)

    def test_a_text_with_one_character_too_many_or_too_few(self):
        characters = "\n !+-./019:>@AZ[`az{~"
        for text, read, write in [("10.20", read_version, version_text), ("ab/10>c/2", read_path, path_text)]:
            for at in range(len(text) + 1):
                changed = [text[:at] + text[at + 1:]] + [text[:at] + character + text[at:] for character in characters]
                for other in changed:
                    try:
                        value = read(other)
                    except InvalidText as error:
                        self.assertEqual(1, error.line)
                    else:
                        self.assertEqual(other, write(value))

    def test_arguments_by_name(self):
        self.assertEqual(["1.0", "-", (1, 0), ()],
                         [version_text(version=(1, 0)), path_text(path=()), read_version(text="1.0"), read_path(text="-")])


if __name__ == "__main__":
    unittest.main()
