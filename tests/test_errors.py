import copy
import unittest

from leastlinks import errors

# Each class with the class directly above it and its attributes, as the interface lists them.
LISTED = [
    ("LinkError", ValueError, None),
    ("InvalidName", errors.LinkError, ["value"]),
    ("InvalidVersion", errors.LinkError, ["value"]),
    ("InvalidPath", errors.LinkError, ["value"]),
    ("InvalidFlag", errors.LinkError, ["value"]),
    ("InvalidNeeds", errors.LinkError, ["position"]),
    ("InvalidLocks", errors.LinkError, ["position"]),
    ("InvalidLinkage", errors.LinkError, ["problem", "row"]),
    ("InvalidFact", errors.LinkError, ["value"]),
    ("InvalidDerivation", errors.LinkError, ["value"]),
    ("InvalidFunctions", errors.LinkError, ["problem", "position"]),
    ("InvalidCode", errors.LinkError, ["value"]),
    ("InvalidCount", errors.LinkError, ["value"]),
    ("InvalidText", errors.LinkError, ["line"]),
    ("InvalidEdit", errors.LinkError, ["value"]),
    ("InvalidCommand", errors.LinkError, ["value"]),
    ("UnknownPackage", LookupError, ["value"]),
    ("UnknownRelease", LookupError, ["package", "version"]),
    ("UnknownPath", LookupError, ["value"]),
    ("UnknownFunction", LookupError, ["value"]),
    ("NoNeed", LookupError, ["label"]),
    ("NameTaken", RuntimeError, ["value"]),
    ("LabelTaken", RuntimeError, ["label"]),
    ("NotEarlier", RuntimeError, ["user", "used"]),
    ("NotRising", RuntimeError, ["package", "version"]),
    ("NotGrowing", RuntimeError, ["label"]),
    ("LostFunction", RuntimeError, ["name"]),
    ("Clash", RuntimeError, ["package"]),
    ("NotCopies", RuntimeError, ["path", "other"]),
    ("NothingToUndo", RuntimeError, []),
    ("TooMany", ArithmeticError, ["kind", "limit"]),
    ("TooManySteps", ArithmeticError, ["limit"]),
]
CONSTRUCTED = [(getattr(errors, name), attributes) for name, base, attributes in LISTED if attributes is not None]


class ErrorsTest(unittest.TestCase):
    def test_the_file_has_the_listed_classes_and_no_others(self):
        classes = [name for name in vars(errors) if isinstance(vars(errors)[name], type)]
        self.assertEqual(sorted(name for name, base, attributes in LISTED), sorted(classes))

    def test_each_class_is_directly_under_its_base_class(self):
        for name, base, attributes in LISTED:
            self.assertEqual((base,), getattr(errors, name).__bases__, name)
            self.assertEqual("leastlinks.errors", getattr(errors, name).__module__)

    def test_attributes_by_position(self):
        for error, attributes in CONSTRUCTED:
            values = [object() for attribute in attributes]
            made = error(*values)
            self.assertEqual(dict(zip(attributes, values)), vars(made), error)

    def test_attributes_by_name(self):
        for error, attributes in CONSTRUCTED:
            values = {attribute: object() for attribute in reversed(attributes)}
            self.assertEqual(values, vars(error(**values)), error)

    def test_a_missing_and_a_further_argument(self):
        for error, attributes in CONSTRUCTED:
            with self.assertRaises(TypeError):
                error(*attributes, 1)
            if attributes:
                with self.assertRaises(TypeError):
                    error(*attributes[1:])

    def test_an_error_can_be_copied(self):
        for error, attributes in CONSTRUCTED:
            made = error(*attributes)
            self.assertEqual(vars(made), vars(copy.copy(made)))

    def test_link_error_takes_a_message(self):
        self.assertEqual("why", str(errors.LinkError("why")))


if __name__ == "__main__":
    unittest.main()
