"""The texts of code and of libraries, and how they are read.

The functions that end in `_in` return None for a text that is not one of theirs.
"""

from leastlinks.code import FORMS, MOST_DEPTH, OWN, is_expression, is_function
from leastlinks.errors import InvalidCode, InvalidText
from leastlinks.library import Library
from leastlinks.names import count_in, label_in, label_text
from leastlinks.registry import PACKAGE_WORD, RELEASE_WORD, package_text, read_lines, release_parts, release_text
from leastlinks.registry import takes_package, takes_release

BEGIN = "("
END = ")"
ARROW = "->"
NO_LABEL = "-"
SEPARATOR = " | "


def expression_text(expression):
    """The text of an expression. Raises InvalidCode."""
    if not is_expression(expression):
        raise InvalidCode(expression)
    return text_of(expression)


def text_of(expression):
    """The text of an expression or of a part of one."""
    word, *parts = expression
    if word == "call":
        label, name, arguments = parts
        words = [NO_LABEL if label is None else label_text(label), name] + [text_of(argument) for argument in arguments]
    else:
        words = [text_of(part) if isinstance(part, tuple) else str(part) for part in parts]
    return BEGIN + " ".join([word] + words) + END


def function_text(function):
    """The text of a function. Raises InvalidCode."""
    if not is_function(function):
        raise InvalidCode(function)
    name, parameters, result, body = function
    return " ".join([name] + [kind_text(kind) for kind in parameters] + [ARROW, kind_text(result), text_of(body)])


def kind_text(kind):
    """The text of a kind."""
    return OWN if kind == OWN else label_text(kind)


def read_expression(text):
    """The expression with this text. Raises InvalidText."""
    if not isinstance(text, str):
        raise InvalidText(0)
    expression = expression_in(text)
    if expression is None:
        raise InvalidText(1)
    return expression


def read_function(text):
    """The function with this text. Raises InvalidText."""
    if not isinstance(text, str):
        raise InvalidText(0)
    function = function_in(text)
    if function is None:
        raise InvalidText(1)
    return function


def expression_in(text):
    """The expression with this text."""
    left = words_from_behind(text)
    try:
        expression = take_expression(left, MOST_DEPTH)
    except InvalidText:
        return None
    return expression if len(left) == 0 and is_expression(expression) else None


def function_in(text):
    """The function with this text."""
    left = words_from_behind(text)
    try:
        function = take_function(left)
    except InvalidText:
        return None
    return function if len(left) == 0 and is_function(function) else None


def words_from_behind(text):
    """The words and parentheses of code, the last one first, so that the next one is taken from the end."""
    # A blank too many in the text leaves an empty word here, and no empty word is part of any code.
    return text.replace(BEGIN, BEGIN + " ").replace(END, " " + END).split(" ")[::-1]


def take_word(left):
    """Take the next word."""
    if len(left) == 0:
        raise InvalidText(1)
    return left.pop()


def take_mark(left, mark):
    """Take the next word, which has to be this one."""
    if take_word(left) != mark:
        raise InvalidText(1)


def take_known(left, read):
    """Take the next word, and return what it says, by a function that returns None for a word that says nothing."""
    value = read(take_word(left))
    if value is None:
        raise InvalidText(1)
    return value


def take_function(left):
    """Take a function."""
    name = take_word(left)
    parameters = []
    while left[-1:] != [ARROW]:
        parameters.append(take_known(left, kind_in_text))
    take_mark(left, ARROW)
    result = take_known(left, kind_in_text)
    return (name, tuple(parameters), result, take_expression(left, MOST_DEPTH))


def take_expression(left, depth):
    """Take an expression that is nested at most so deep."""
    take_mark(left, BEGIN)
    word = take_word(left)
    if depth == 0 or word not in FORMS:
        raise InvalidText(1)
    parts = [take_part(left, form, depth - 1) for form in FORMS[word]]
    take_mark(left, END)
    return (word, *parts)


def take_part(left, form, depth):
    """Take a part of an expression that has this form; expressions in it are nested at most so deep."""
    if form == "expression":
        return take_expression(left, depth)
    if form == "number":
        return take_known(left, number_in)
    if form == "count":
        return take_known(left, count_in)
    if form == "name":
        return take_word(left)
    if form == "label":
        return take_label(left)
    arguments = []
    while left[-1:] == [BEGIN]:
        arguments.append(take_expression(left, depth))
    return tuple(arguments)


def take_label(left):
    """Take the label of a call, or None."""
    if left[-1:] != [NO_LABEL]:
        return take_known(left, label_in)
    take_mark(left, NO_LABEL)
    return None


def kind_in_text(text):
    """The kind with this text."""
    return OWN if text == OWN else label_in(text)


def number_in(text):
    """The integer with this text."""
    count = count_in(text.removeprefix("-"))
    if count is None or text == "-0":
        return None
    return -count if text.startswith("-") else count


def published_text(package, version, needs, functions):
    """What stands in the line of a release with these needs and functions behind its first word."""
    return SEPARATOR.join([release_text(package, version, needs)] + [function_text(function) for function in functions])


def published_parts(text):
    """The package, version, needs and functions with this text behind the first word, None if no line has it."""
    head, *texts = text.split(SEPARATOR)
    parts = release_parts(head.split(" "))
    functions = [function_in(each) for each in texts]
    if parts is None or None in functions:
        return None
    return (*parts, functions)


def library_text(library):
    """The text of a library."""
    lines = []
    for package in library.packages():
        lines.append(f"{PACKAGE_WORD} {package_text(package, library.is_sole(package))}\n")
        for version in library.versions(package):
            needs = library.needs(package, version)
            functions = library.functions(package, version)
            lines.append(f"{RELEASE_WORD} {published_text(package, version, needs, functions)}\n")
    return "".join(lines)


def read_library(text):
    """The library with this text. Raises InvalidText."""
    library = Library()
    read_lines(text, lambda line: takes_library_line(library, line))
    return library


def takes_library_line(library, line):
    """Add what a line says to a library, and tell whether a text may go on with it."""
    word, _, rest = line.partition(" ")
    if word == PACKAGE_WORD:
        return takes_package(library, rest.split(" "))
    return word == RELEASE_WORD and takes_release(library, published_parts(rest))
