"""Names, versions, labels and paths: their forms, their texts, and how the texts are read.

The functions that end in `_in` return None for a text that is not one of theirs.
"""

from leastlinks.errors import InvalidPath, InvalidText, InvalidVersion

MOST_LETTERS = 8
MOST_LABELS = 10
DIGITS = "0123456789"
MAIN_TEXT = "-"


def is_integer(value):
    """Whether this is an int that is not a bool."""
    return isinstance(value, int) and not isinstance(value, bool)


def is_count(value):
    """Whether this is an integer that is at least 0."""
    return is_integer(value) and value >= 0


def is_name(value):
    """Whether this is a string of one to eight characters from a to z."""
    if not isinstance(value, str) or not 1 <= len(value) <= MOST_LETTERS:
        return False
    return all(["a" <= letter <= "z" for letter in value])


def is_version(value):
    """Whether this is a tuple of a generation and a step."""
    return isinstance(value, tuple) and len(value) == 2 and is_count(value[0]) and is_count(value[1])


def is_label(value):
    """Whether this is a tuple of a name and a generation."""
    return isinstance(value, tuple) and len(value) == 2 and is_name(value[0]) and is_count(value[1])


def is_path(value):
    """Whether this is a tuple of at most ten labels."""
    if not isinstance(value, tuple) or len(value) > MOST_LABELS:
        return False
    return all([is_label(label) for label in value])


def version_text(version):
    """The generation, a dot and the step. Raises InvalidVersion."""
    if not is_version(version):
        raise InvalidVersion(version)
    return f"{version[0]}.{version[1]}"


def label_text(label):
    """The package, a slash and the generation, of a label."""
    return f"{label[0]}/{label[1]}"


def path_text(path):
    """The texts of the labels, joined by `>`, and `-` for the path (). Raises InvalidPath."""
    if not is_path(path):
        raise InvalidPath(path)
    if len(path) == 0:
        return MAIN_TEXT
    return ">".join([label_text(label) for label in path])


def count_in(text):
    """The count with this decimal text."""
    if text == "" or (text[0] == "0" and text != "0"):
        return None
    number = 0
    # Digit by digit, because int(..) also takes signs, blanks and other scripts.
    for character in text:
        digit = DIGITS.find(character)
        if digit < 0:
            return None
        number = number * 10 + digit
    return number


def version_in(text):
    """The version with this text."""
    counts = [count_in(part) for part in text.split(".")]
    if len(counts) != 2 or None in counts:
        return None
    return (counts[0], counts[1])


def label_in(text):
    """The label with this text."""
    package, _, number = text.partition("/")
    generation = count_in(number)
    if not is_name(package) or generation is None:
        return None
    return (package, generation)


def path_in(text):
    """The path with this text."""
    if text == MAIN_TEXT:
        return ()
    labels = [label_in(part) for part in text.split(">")]
    if len(labels) > MOST_LABELS or None in labels:
        return None
    return tuple(labels)


def read_version(text):
    """The version with this text. Raises InvalidText."""
    if not isinstance(text, str):
        raise InvalidText(0)
    version = version_in(text)
    if version is None:
        raise InvalidText(1)
    return version


def read_path(text):
    """The path with this text. Raises InvalidText."""
    if not isinstance(text, str):
        raise InvalidText(0)
    path = path_in(text)
    if path is None:
        raise InvalidText(1)
    return path
