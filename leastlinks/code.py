"""Code: the forms of kinds, expressions and functions."""

from leastlinks.errors import InvalidCode
from leastlinks.names import is_count, is_integer, is_label, is_name

OWN = "own"
MOST_DEPTH = 5
MOST_PARTS = 30
MOST_PARAMETERS = 4
# For each word, what the parts of an expression behind it are.
FORMS = {
    "make": ("number",),
    "param": ("count",),
    "plus": ("expression", "number"),
    "call": ("label", "name", "arguments"),
    "do": ("expression", "expression"),
    "if": ("expression", "expression", "expression"),
}


def is_kind(value):
    """Whether this is the word own or a label."""
    return is_label(value) or (isinstance(value, str) and value == OWN)


def is_expression(value):
    """Whether this has the form of an expression, and is neither too deep nor too large."""
    return has_form(value, MOST_DEPTH) and count_of(value) <= MOST_PARTS


def is_function(value):
    """Whether this has the form of a function."""
    if not isinstance(value, tuple) or len(value) != 4:
        return False
    name, parameters, result, body = value
    if not is_name(name) or not isinstance(parameters, tuple) or len(parameters) > MOST_PARAMETERS:
        return False
    return all([is_kind(kind) for kind in parameters]) and is_kind(result) and is_expression(body)


def calls_in(expression):
    """Yield the label and the name of each call, before those in its arguments. Raises InvalidCode when it begins."""
    if not is_expression(expression):
        raise InvalidCode(expression)
    waiting = [expression]
    while len(waiting) > 0:
        part = waiting.pop()
        if part[0] == "call":
            yield (part[1], part[2])
        waiting.extend(inner_parts(part)[::-1])


def has_form(value, depth):
    """Whether this is an expression that is nested at most so deep, however large it is."""
    if depth == 0 or not isinstance(value, tuple) or len(value) == 0 or not isinstance(value[0], str):
        return False
    if value[0] not in FORMS or len(value) - 1 != len(FORMS[value[0]]):
        return False
    return all([is_part(part, form, depth - 1) for part, form in zip(value[1:], FORMS[value[0]])])


def is_part(value, form, depth):
    """Whether this can be a part of an expression of this form; expressions in it are nested at most so deep."""
    if form == "expression":
        return has_form(value, depth)
    if form == "number":
        return is_integer(value)
    if form == "count":
        return is_count(value)
    if form == "label":
        return value is None or is_label(value)
    if form == "name":
        return is_name(value)
    if not isinstance(value, tuple) or len(value) > MOST_PARAMETERS:
        return False
    return all([has_form(argument, depth) for argument in value])


def inner_parts(expression):
    """The expressions directly in an expression, as they stand in it."""
    if expression[0] == "call":
        return list(expression[3])
    forms = FORMS[expression[0]]
    return [part for part, form in zip(expression[1:], forms) if form == "expression"]


def count_of(expression):
    """How many expressions are in an expression, itself included."""
    return 1 + sum([count_of(part) for part in inner_parts(expression)])


def plain_code(value):
    """The same kind, expression or function in plain tuples, so that no caller's own kind of tuple is kept."""
    return tuple([plain_code(part) for part in value]) if isinstance(value, tuple) else value
