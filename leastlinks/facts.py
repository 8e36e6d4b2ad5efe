"""Facts: what a linkage can have at one path or at two."""

from leastlinks.errors import InvalidFact
from leastlinks.projects import is_release_at, is_release_path

ATLEAST = "atleast"
SAME = "same"
ABSURD = "absurd"


def is_fact(project, value):
    """Whether this is a fact of the project."""
    return is_fact_in(project.registry(), value)


def is_fact_in(registry, value):
    """Whether this is a fact of the projects of this registry."""
    if not isinstance(value, tuple) or len(value) == 0 or not isinstance(value[0], str):
        return False
    if value[0] == ABSURD:
        return len(value) == 1
    if len(value) != 3:
        return False
    if value[0] == ATLEAST:
        return is_release_at(registry, value[1], value[2])
    return value[0] == SAME and is_release_path(registry, value[1]) and is_release_path(registry, value[2])


def holds(linkage, fact):
    """Whether a fact of the linkage's project holds in the linkage. Raises InvalidFact."""
    if not is_fact(linkage.project(), fact):
        raise InvalidFact(fact)
    if fact[0] == ABSURD or not linkage.has_path(fact[1]):
        return False
    if fact[0] == ATLEAST:
        return linkage.release(fact[1])[1][1] >= fact[2][1]
    return linkage.has_path(fact[2]) and linkage.are_copies(fact[1], fact[2])
