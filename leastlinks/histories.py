"""Histories: the text of the library with which a workspace was made, and of its edits."""

from leastlinks.code_texts import library_text, published_parts, published_text, takes_library_line
from leastlinks.edits import performed
from leastlinks.errors import Clash, InvalidFunctions, InvalidNeeds, LabelTaken, LostFunction, NameTaken, NoNeed
from leastlinks.errors import NotEarlier, NotGrowing, NotRising, TooMany, UnknownPackage, UnknownRelease
from leastlinks.library import Library
from leastlinks.names import is_name, label_in, label_text, version_in, version_text
from leastlinks.registry import package_parts, package_text, read_lines
from leastlinks.workspaces import Workspace


def save(workspace):
    """The history of a workspace."""
    lines = [edit_text(edit) + "\n" for edit in workspace.edits()]
    return library_text(workspace.first_library()) + "".join(lines)


def load(text):
    """The workspace with this history. Raises InvalidText."""
    loading = Loading()
    read_lines(text, lambda line: loading.takes(line))
    return loading.workspace()


class Loading:
    """What the lines of a history say so far: a library, and from the first edit on a workspace."""

    def __init__(self):
        self._library = Library()
        self._edited = None

    def takes(self, line):
        """Do what a line says, and tell whether a history may go on with it."""
        if self._edited is None and takes_library_line(self._library, line):
            return True
        self._edited = self.workspace()
        return takes_edit(self._edited, line)

    def workspace(self):
        """The workspace."""
        return Workspace(self._library) if self._edited is None else self._edited


def takes_edit(workspace, line):
    """Perform the edit that a line says, and tell whether a history may go on with it."""
    edit = edit_in(line)
    if edit is None:
        return False
    try:
        performed(workspace, edit)
    except (InvalidNeeds, InvalidFunctions, UnknownPackage, UnknownRelease, NoNeed, NameTaken, LabelTaken, NotEarlier,
            NotRising, NotGrowing, LostFunction, Clash, TooMany):
        return False
    # The needs of a release can be published in another sequence than that in which a history lists them.
    return edit_text(workspace.edits()[-1]) == line


def edit_text(edit):
    """The line of an edit, without the line feed."""
    word, *parts = edit
    return " ".join([word] + parts_texts(word, parts))


def parts_texts(word, parts):
    """What stands in the line of an edit behind its word, in a list, an empty one if nothing does."""
    if word == "declare":
        return [package_text(*parts)]
    if word == "publish":
        return [published_text(*parts)]
    if word in ("need", "raise"):
        return [named_text(*parts)]
    return [label_text(label) for label in parts]


def edit_in(line):
    """The edit with this line by its form, the needs of a release in any sequence; None if there is none."""
    if line in ("lock", "unlock"):
        return (line,)
    word, _, rest = line.partition(" ")
    parts = edit_parts(word, rest)
    return None if parts is None else (word, *parts)


def edit_parts(word, text):
    """The parts of an edit with this word and this text behind it, None if there is none."""
    if word == "declare":
        return package_parts(text.split(" "))
    if word == "publish":
        return published_parts(text)
    if word in ("need", "raise"):
        return named_parts(text)
    label = label_in(text)
    return (label,) if word == "drop" and label is not None else None


def named_text(package, version):
    """The package, a slash and the version, of a release or of a need of the main program."""
    return f"{package}/{version_text(version)}"


def named_parts(text):
    """The package and the version with this text, None if there are none."""
    package, _, number = text.partition("/")
    version = version_in(number)
    return (package, version) if is_name(package) and version is not None else None
