"""Workspaces: a library and a project of it, with edits that can be undone."""

from leastlinks.comparing import changes
from leastlinks.deriving import derive
from leastlinks.errors import InvalidCount, LabelTaken, NoNeed, NotCopies, NothingToUndo, NotRising, UnknownPath
from leastlinks.errors import UnknownRelease
from leastlinks.facts import ATLEAST, SAME
from leastlinks.names import is_integer
from leastlinks.projects import Project
from leastlinks.registry import need_label
from leastlinks.resolving import resolve
from leastlinks.running import run
from leastlinks.sight import named_version

FIRST_LIMIT = 1000
MOST_STEPS = 10000


def copied_edit(edit):
    """The same edit, the lists in it new."""
    return tuple([list(part) if isinstance(part, list) else part for part in edit])


class Workspace:
    """The resolution of a project, which tells its project and thereby its library, and the edits behind it."""

    def __init__(self, library):
        self._resolution = resolve(Project(library))
        self._step_limit = FIRST_LIMIT
        # For each edit that can be undone, the oldest one first, a tuple of it and of the resolution before it.
        self._past = []

    @property
    def resolution(self):
        """The linkage that the project resolves to now."""
        return self._resolution

    @property
    def step_limit(self):
        """The limit of run."""
        return self._step_limit

    @step_limit.setter
    def step_limit(self, value):
        """Raises InvalidCount."""
        if not is_integer(value) or not 1 <= value <= MOST_STEPS:
            raise InvalidCount(value)
        self._step_limit = value

    def clone(self):
        """An independent copy, with the same edits to undo."""
        result = Workspace(self.library())
        result.become(self)
        return result

    def become(self, other):
        """Be in all as another workspace is now, the step limit and the edits to undo included."""
        self._resolution = other._resolution
        self._step_limit = other._step_limit
        self._past = list(other._past)

    def library(self):
        """A copy of the library."""
        return self.project().registry()

    def first_library(self):
        """A copy of the library with which the workspace was made."""
        first = self._past[0][1] if len(self._past) > 0 else self._resolution
        return first.project().registry()

    def project(self):
        """The project."""
        return self._resolution.project()

    def edits(self):
        """The edits that can be undone, the oldest one first."""
        return [copied_edit(edit) for edit, _ in self._past]

    def declare(self, package, *, sole=False):
        """Add a package to the library. Raises as the library."""
        library = self.library()
        library.declare(package, sole=sole)
        self._take_library(("declare", package, sole), library)

    def publish(self, package, version, needs=(), functions=()):
        """Add a release to the library. Raises as the library."""
        library = self.library()
        library.publish(package, version, needs, functions)
        listed = library.needs(package, version)
        kept = library.functions(package, version)
        self._take_library(("publish", package, tuple(version), listed, kept), library)

    def add_need(self, package, version):
        """Add a need of the main program, and return the changes. Raises as listed."""
        label = self._label_of(package, version)
        if self._needed(label) is not None:
            raise LabelTaken(label)
        return self._take(("need", package, tuple(version)), self.project().with_need(package, version))

    def raise_need(self, package, version):
        """Put a need in the place of an older one of its label, and return the changes. Raises as listed."""
        label = self._label_of(package, version)
        present = self._needed(label)
        if present is None:
            raise NoNeed(label)
        if present >= version:
            raise NotRising(package, version)
        return self._take(("raise", package, tuple(version)), self.project().with_need(package, version))

    def drop_need(self, label):
        """Remove the need with this label, and return the changes. Raises as listed."""
        project = self.project().without_need(label)
        return self._take(("drop", tuple(label)), project)

    def lock(self):
        """Lock the resolution in the place of earlier locks, and return the number of locks."""
        copies = self._resolution.copies()[1:]
        locks = [(path, self._resolution.release(path)[1]) for path in copies]
        self._take(("lock",), self.project().with_locks(locks))
        return len(locks)

    def unlock(self):
        """Remove all locks, and return the changes. Raises as resolve."""
        return self._take(("unlock",), self.project().with_locks([]))

    def undo(self, count=1):
        """Undo so many edits, and return the changes. Raises InvalidCount and NothingToUndo."""
        if not is_integer(count) or count < 1:
            raise InvalidCount(count)
        if count > len(self._past):
            raise NothingToUndo()
        old = self._resolution
        self._resolution = self._past[-count][1]
        self._past = self._past[:-count]
        return changes(old, self._resolution)

    def why(self, path):
        """A derivation of the fact that the path has at least its release. Raises UnknownPath."""
        self._check_path(path)
        return derive(self.project(), (ATLEAST, path, self._resolution.release(path)[1]))

    def why_same(self, path, other):
        """A derivation of the fact that both paths are copies. Raises UnknownPath and NotCopies."""
        self._check_path(path)
        self._check_path(other)
        if not self._resolution.are_copies(path, other):
            raise NotCopies(path, other)
        return derive(self.project(), (SAME, path, other))

    def run(self, expression):
        """The value that the run of the expression in the resolution returns. Raises InvalidCode and TooManySteps."""
        return run(self._resolution, expression, limit=self._step_limit)

    def __eq__(self, other):
        if not isinstance(other, Workspace):
            return False
        # Projects are equal only if their libraries are.
        return self.project() == other.project() and self._step_limit == other._step_limit

    def __len__(self):
        return len(self._past)

    def __repr__(self):
        return f"Workspace({self.project().needs()!r})"

    def _take(self, edit, project):
        """Store an edit and the resolution of the project behind it, and return the changes. Raises as resolve."""
        old = self._resolution
        self._resolution = resolve(project)
        self._past.append((edit, old))
        return changes(old, self._resolution)

    def _take_library(self, edit, library):
        """Store an edit of the library."""
        project = self.project()
        self._take(edit, Project(library, project.needs(), locks=project.locks()))

    def _label_of(self, package, version):
        """The label of a release. Raises UnknownRelease."""
        if not self.library().has_release(package, version):
            raise UnknownRelease(package, version)
        return need_label((package, version))

    def _needed(self, label):
        """The version that the main program's need with this label names, None if there is none."""
        return named_version(self.project().needs(), label)

    def _check_path(self, value):
        """Raise UnknownPath for a value that is not the path of a copy other than the main one."""
        if not self._resolution.has_path(value) or len(value) == 0:
            raise UnknownPath(value)
