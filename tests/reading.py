"""The texts of code, libraries and histories by the words of the document.

What is read here is read with great tolerance, written again by the words, and must then be the same text. It shares with
the program its interface below the texts alone.
"""

import re

from leastlinks.code import is_expression, is_function
from leastlinks.library import Library
from leastlinks.workspaces import Workspace

REFUSED = (ValueError, LookupError, RuntimeError, ArithmeticError)


def label_words(label):
    return f"{label[0]}/{label[1]}"


def kind_words(kind):
    return kind if kind == "own" else label_words(kind)


def expression_words(expression):
    """The text of an expression."""
    word = expression[0]
    if word in ("make", "param"):
        return f"({word} {expression[1]})"
    if word == "plus":
        return f"(plus {expression_words(expression[1])} {expression[2]})"
    if word == "call":
        _, label, name, arguments = expression
        start = f"(call {'-' if label is None else label_words(label)} {name}"
        return start + "".join([" " + expression_words(each) for each in arguments]) + ")"
    return f"({word} {' '.join([expression_words(each) for each in expression[1:]])})"


def function_words(function):
    """The text of a function."""
    name, parameters, result, body = function
    return " ".join([name, *[kind_words(kind) for kind in parameters], "->", kind_words(result), expression_words(body)])


def package_words(package, sole):
    """The parts of a package in its line."""
    return package + (" sole" if sole else "")


def release_words(package, version, needs, functions):
    """The parts of a release in its line."""
    words = [f"{package} {version[0]}.{version[1]}"]
    words += [f"{used}/{named[0]}.{named[1]}{'+' if is_shown else ''}" for used, named, is_shown in needs]
    return " | ".join([" ".join(words)] + [function_words(function) for function in functions])


def library_words(library):
    """The text of a library."""
    lines = []
    for package in library.packages():
        lines.append("package " + package_words(package, library.is_sole(package)))
        for version in library.versions(package):
            needs, functions = library.needs(package, version), library.functions(package, version)
            lines.append("release " + release_words(package, version, needs, functions))
    return "".join([line + "\n" for line in lines])


def edit_words(edit):
    """The line of an edit."""
    word, *parts = edit
    if word == "declare":
        return "declare " + package_words(*parts)
    if word == "publish":
        return "publish " + release_words(*parts)
    if word in ("need", "raise"):
        return f"{word} {parts[0]}/{parts[1][0]}.{parts[1][1]}"
    return f"drop {label_words(parts[0])}" if word == "drop" else word


def history_words(library, edits):
    """The history of a workspace that was made with this library and has these edits behind it."""
    return library_words(library) + "".join([edit_words(edit) + "\n" for edit in edits])


def lenient_label(text):
    """The label that a text could mean."""
    package, number = re.fullmatch(r"\W*(\w*)\W*?(-?\d+)\W*", text).groups()
    return (package, int(number))


def lenient_kind(text):
    return text if text == "own" else lenient_label(text)


def lenient_expression(tokens):
    """The expression that tokens could mean; takes them off the front."""
    tokens.pop(0)
    word = tokens.pop(0)
    if word in ("make", "param"):
        parts = [int(tokens.pop(0))]
    elif word == "plus":
        parts = [lenient_expression(tokens), int(tokens.pop(0))]
    elif word == "call":
        label = tokens.pop(0)
        parts = [None if label == "-" else lenient_label(label), tokens.pop(0), []]
        while tokens[0] == "(":
            parts[2].append(lenient_expression(tokens))
        parts[2] = tuple(parts[2])
    else:
        parts = [lenient_expression(tokens) for _ in range({"do": 2, "if": 3}[word])]
    tokens.pop(0)
    return (word, *parts)


def tokens_of(text):
    return re.findall(r"[()]|[^\s()]+", text)


def expression_meant(text):
    """The expression with this text, None if there is none."""
    try:
        expression = lenient_expression(tokens_of(text))
    except (AttributeError, LookupError, RecursionError, ValueError):
        return None
    return expression if is_expression(expression) and expression_words(expression) == text else None


def function_meant(text):
    """The function with this text, None if there is none."""
    try:
        tokens = tokens_of(text)
        at = tokens.index("->")
        kinds = [lenient_kind(token) for token in [*tokens[1:at], tokens[at + 1]]]
        function = (tokens[0], tuple(kinds[:-1]), kinds[-1], lenient_expression(tokens[at + 2:]))
    except (AttributeError, LookupError, RecursionError, ValueError):
        return None
    return function if is_function(function) and function_words(function) == text else None


def release_meant(text):
    """The package, version, needs and functions with these parts of a line, None if there are none."""
    head, *texts = text.split("|")
    words = head.split()
    functions = [function_meant(each.strip(" ")) for each in texts]
    try:
        needs = []
        for word in words[2:]:
            used, one, two, mark = re.fullmatch(r"(\w+)/(\d+)\.(\d+)(\+?)", word).groups()
            needs.append((used, (int(one), int(two)), mark == "+"))
        one, two = re.fullmatch(r"(\d+)\.(\d+)", words[1]).groups()
    except (AttributeError, LookupError):
        return None
    parts = (words[0], (int(one), int(two)), needs, functions)
    return parts if None not in functions and release_words(*parts) == text else None


def takes_library_line(library, line):
    """Whether the text of a library can go on with this line; it is put into the library then."""
    word, _, rest = line.partition(" ")
    try:
        if word == "package":
            package = rest.split(" ")[0]
            if line != "package " + package_words(package, rest.endswith(" sole")):
                return False
            library.declare(package, sole=rest.endswith(" sole"))
            return True
        parts = release_meant(rest) if word == "release" else None
        if parts is None or library.packages()[-1:] != [parts[0]] or max(library.versions(parts[0]) + [(-1, 0)]) > parts[1]:
            return False
        if parts[2] != sorted(parts[2], key=lambda need: (need[0], need[1][0])):
            return False
        library.publish(*parts)
    except REFUSED:
        return False
    return True


def takes_edit(workspace, line):
    """Whether a history can go on with this line; it is performed then."""
    word, _, rest = line.partition(" ")
    try:
        if word == "declare":
            workspace.declare(rest.split(" ")[0], sole=rest.endswith(" sole"))
        elif word == "publish":
            workspace.publish(*release_meant(rest))
        elif word in ("need", "raise"):
            package, one, two = re.fullmatch(r"(\w+)/(\d+)\.(\d+)", rest).groups()
            (workspace.add_need if word == "need" else workspace.raise_need)(package, (int(one), int(two)))
        elif word == "drop":
            workspace.drop_need(lenient_label(rest))
        elif word in ("lock", "unlock"):
            workspace.lock() if word == "lock" else workspace.unlock()
        else:
            return False
    except (AttributeError, TypeError, *REFUSED):
        return False
    return edit_words(workspace.edits()[-1]) == line


def library_meant(text):
    """The library with this text, or the number of the first line with which no text can go on."""
    library = Library()
    *lines, last = text.split("\n")
    for number, line in enumerate(lines, start=1):
        if not takes_library_line(library, line):
            return number
    return library if last == "" else len(lines) + 1


def workspace_meant(text):
    """The workspace with this history, or the number of the first line with which no history can go on."""
    library, workspace = Library(), None
    *lines, last = text.split("\n")
    for number, line in enumerate(lines, start=1):
        if workspace is None and takes_library_line(library, line):
            continue
        workspace = workspace or Workspace(library)
        if not takes_edit(workspace, line):
            return number
    return (workspace or Workspace(library)) if last == "" else len(lines) + 1


def changed_lines(text):
    """Texts with one line left out, doubled, exchanged with the next one, or moved, or with the text cut."""
    lines = text.split("\n")[:-1]
    found = []
    for at, line in enumerate(lines):
        rest = lines[:at] + lines[at + 1:]
        found += [rest, lines[:at] + [line, line] + lines[at + 1:], lines[:at] + [""] + lines[at:],
                  lines[:at] + ["nothing"] + lines[at:]]
        found += [rest[:to] + [line] + rest[to:] for to in range(len(lines)) if to != at]
    return ["".join([line + "\n" for line in each]) for each in found] + ["".join([line + "\n" for line in lines])[:-1]]


def changed_words(text):
    """Texts with one word left out, doubled, exchanged with the next one, or replaced by another one."""
    found = []
    for match in re.finditer(r"[^ \n]+", text):
        before, word, behind = text[:match.start()], match.group(), text[match.end():]
        for other in ["", f"{word} {word}", f"{word} sole", "own", "|", "->", "(make 1)", "a/0.0", "a/0", "0.0", "a", "-",
                      "sole", "lock"]:
            found.append(before + other + behind)
        found.append(before.removesuffix(" ") + behind)
        after = re.match(r"([ \n])([^ \n]+)", behind)
        if after:
            found.append(before + after.group(2) + after.group(1) + word + behind[after.end():])
    return found


def changed_characters(chance, text, count):
    """So many texts with one character put in, left out, replaced, doubled or exchanged, or with the text cut."""
    found = []
    for _ in range(count):
        at = chance.randrange(len(text))
        other = chance.choice(" \n()|->+/.-0123456789abcmoplws")
        found.append(chance.choice([
            text[:at] + other + text[at:], text[:at] + text[at + 1:], text[:at] + other + text[at + 1:],
            text[:at] + text[at] + text[at:],
            text[:at] + text[at + 1:at + 2] + text[at] + text[at + 2:], text[:at], text[at:],
        ]))
    return found
