"""Consoles: a workspace that does what commands say and answers in strings."""

from leastlinks.code_texts import expression_in
from leastlinks.comparing import joined
from leastlinks.edits import performed
from leastlinks.errors import InvalidCommand
from leastlinks.histories import edit_in, named_text
from leastlinks.names import MAIN_TEXT, count_in, is_name, label_text, path_in, path_text, version_text
from leastlinks.workspaces import Workspace


def listed(texts):
    """The texts in one string."""
    return " ".join(texts) if len(texts) > 0 else "-"


def packages_answer(workspace):
    """The packages."""
    return listed(workspace.library().packages())


def needs_answer(workspace):
    """The needs of the main program."""
    return listed([named_text(package, version) for package, version in workspace.project().needs()])


def locks_answer(workspace):
    """The locks."""
    return listed([f"{path_text(path)}:{version_text(version)}" for path, version in workspace.project().locks()])


def copies_answer(workspace):
    """The copies of the resolution."""
    return listed([path_text(path) for path in workspace.resolution.copies()])


def versions_answer(workspace, package):
    """The versions of a package."""
    return listed([version_text(version) for version in workspace.library().versions(package)])


def release_answer(workspace, path):
    """The release of a copy."""
    release = workspace.resolution.release(path)
    return MAIN_TEXT if release is None else named_text(release[0], release[1])


def links_answer(workspace, path):
    """The links of a copy."""
    links = workspace.resolution.links(path)
    return listed([f"{label_text(label)}:{path_text(links[label])}" for label in links])


def seen_answer(workspace, path):
    """The copies that a copy sees."""
    seen = workspace.resolution.seen(path)
    return listed([f"{label_text(label)}:{path_text(first)}" for label in seen for first in seen[label]])


def same_answer(workspace, path, other):
    """Whether two paths are copies."""
    return "yes" if workspace.resolution.are_copies(path, other) else "no"


def joined_answer(workspace):
    """The copies of the joined linkage of the resolution."""
    return listed([path_text(path) for path in joined(workspace.resolution).copies()])


def run_answer(workspace, expression):
    """The value that a run returns."""
    path, number = workspace.run(expression)
    return f"{path_text(path)}:{number}"


ANSWERS = {
    "packages": packages_answer,
    "needs": needs_answer,
    "locks": locks_answer,
    "copies": copies_answer,
    "versions": versions_answer,
    "release": release_answer,
    "links": links_answer,
    "seen": seen_answer,
    "same": same_answer,
    "joined": joined_answer,
    "run": run_answer,
}
# How many paths a query has behind its word.
PATHS = {"packages": 0, "needs": 0, "locks": 0, "copies": 0, "joined": 0, "release": 1, "links": 1, "seen": 1,
         "same": 2}


class Console:
    """A workspace, and how many commands and results each run of a list had."""

    def __init__(self, library):
        self._workspace = Workspace(library)
        self._log = []

    def workspace(self):
        """A copy of the workspace."""
        return self._workspace.clone()

    def execute(self, command):
        """Perform a command, and return its result. Raises InvalidCommand, and as its method."""
        return executed(self._workspace, command)

    def run(self, commands):
        """Execute the commands of a list, all or none, and return their results. Raises as the first refused one."""
        if not isinstance(commands, list):
            raise InvalidCommand(commands)
        trial = self._workspace.clone()
        results = []
        self._log.append((len(commands), 0))
        for command in commands:
            results.append(executed(trial, command))
            self._log[-1] = (len(commands), len(results))
        self._workspace = trial
        return results

    def log(self):
        """For each run of a list the number of its commands and that of their results."""
        return list(self._log)


def executed(workspace, command):
    """Perform a command on a workspace, and return its result. Raises InvalidCommand, and as its method."""
    if not isinstance(command, str):
        raise InvalidCommand(command)
    edit = command_edit_in(command)
    if edit is not None:
        return result_text(performed(workspace, edit))
    query = query_in(command)
    if query is None:
        raise InvalidCommand(command)
    word, *parts = query
    answer = ANSWERS[word]
    return answer(workspace, *parts)


def command_edit_in(command):
    """The edit with this command, None if there is none."""
    if command == "undo":
        return ("undo", 1)
    word, _, rest = command.partition(" ")
    if word in ("undo", "limit"):
        count = count_in(rest)
        return None if count is None else (word, count)
    return edit_in(command)


def query_in(command):
    """The query with this command, None if there is none."""
    word, _, rest = command.partition(" ")
    if word == "run":
        expression = expression_in(rest)
        return None if expression is None else (word, expression)
    if word == "versions":
        return (word, rest) if is_name(rest) else None
    word, *texts = command.split(" ")
    paths = [path_in(text) for text in texts]
    if word not in PATHS or len(paths) != PATHS[word] or None in paths:
        return None
    return (word, *paths)


def result_text(result):
    """The text of the result of an edit: nothing, the number of locks, or changes."""
    if result is None:
        return "ok"
    if isinstance(result, int):
        return str(result)
    return listed([change_text(change) for change in result])


def change_text(change):
    """The text of a change."""
    word, path, *others = change
    texts = [version_text(other) if word == "release" else path_text(other) for other in others]
    return ":".join([word, path_text(path)] + texts)
