"""Resolving: the solution of a project that is below every other one."""

from leastlinks.errors import Clash, InvalidPath
from leastlinks.forming import formed, slot_label
from leastlinks.names import is_path


def resolve(project):
    """The solution of a project that is below every other one. Raises Clash and TooMany."""
    return solved(formed(project))


def solved(forming):
    """The linkage of formed copies. Raises Clash."""
    if forming.clash is not None:
        raise Clash(slot_label(forming.clash[0])[0])
    return forming.linkage()


def is_solvable(project):
    """Whether a project has a solution. Raises TooMany."""
    return formed(project).clash is None


def resolve_all(*projects):
    """The resolutions of these projects. Raises as resolve for the first one for which it does."""
    return [resolve(project) for project in projects]


def oldest_release(project, path):
    """The version at the path in the resolution, None if there is none. Raises InvalidPath, and as resolve."""
    if not is_path(path):
        raise InvalidPath(path)
    linkage = resolve(project)
    if len(path) == 0 or not linkage.has_path(path):
        return None
    return linkage.release(path)[1]
