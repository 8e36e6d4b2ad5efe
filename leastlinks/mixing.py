"""Mixing: where some copy sees two copies under one label, code whose run brings a value of the one to the other."""

from leastlinks.code import OWN
from leastlinks.errors import TooManySteps
from leastlinks.library import Library
from leastlinks.linkages import Linkage, needs_of
from leastlinks.projects import Project
from leastlinks.registry import need_label
from leastlinks.running import is_main_code, started
from leastlinks.sight import named_version, sees, shown_needs, shows

MOST_CALLS = 1000
MAKE = ("make", 0)
# The functions that lead to the copy that sees two others, that fetch a value from the one, and hand it to the other.
START = "start"
FETCH = "fetch"
HAND = "hand"


def mixing(linkage):
    """A mixing of a linkage that has a sight conflict, None for another one."""
    conflict = linkage.sight_conflict()
    if conflict is None:
        return None
    path, label = conflict
    mix = Mix(linkage, path, label)
    project = Project(mix.library(), linkage.project().needs())
    expression = mix.mixed() if len(path) == 0 else ("call", path[0], START, ())
    return (Linkage(project, linkage.rows()), expression)


def is_mixing(linkage, value):
    """Whether this is a mixing of the linkage."""
    if not isinstance(value, tuple) or len(value) != 2 or not isinstance(value[0], Linkage):
        return False
    other, expression = value
    if other != linkage or not has_same_needs(other.project(), linkage.project()):
        return False
    return is_main_code(other.project(), expression) and has_stray_call(other, expression)


def has_same_needs(project, other):
    """Whether both projects have the same needs, and registries that are equal but for functions."""
    return project.needs() == other.needs() and bare_registry(project) == bare_registry(other)


def bare_registry(project):
    """The registry of a project without functions."""
    registry = project.registry()
    return registry.registry() if isinstance(registry, Library) else registry


def has_stray_call(linkage, expression):
    """Whether one of the first calls of a run is stray; there may be more calls."""
    machine = started(linkage, expression, MOST_CALLS)
    try:
        call = machine.next_call()
        while call is not None:
            if machine.is_stray(call):
                return True
            call = machine.next_call()
    except TooManySteps:
        return False
    return False


class Mix:
    """Two chains along which the copy at a path sees two copies under a label, and the code that goes along them."""

    def __init__(self, linkage, path, label):
        self._known = linkage.project().registry()
        self._path = path
        chains = chains_under(linkage, path, label)
        self._one = chains[0]
        self._other = chains[1]

    def mixed(self):
        """The expression that fetches a value along one chain and hands it along the other."""
        value = ("call", self._one[0], FETCH, ())
        return ("call", self._other[0], HAND, (value,))

    def library(self):
        """The library with the same packages, releases and needs, and the functions."""
        library = Library()
        for package in self._known.packages():
            library.declare(package, sole=self._known.is_sole(package))
            for version in self._known.versions(package):
                functions = self._starts(package, version) + self._fetches(package, version)
                functions += self._hands(package, version)
                library.publish(package, version, self._known.needs(package, version), functions)
        return library

    def _starts(self, package, version):
        """The function of a release that leads towards the copy at the path, in a list, an empty one elsewhere."""
        rest = rest_behind(self._path, (package, version[0]))
        if rest is None:
            return []
        return [(START, (), OWN, self._start_body(package, version, rest))]

    def _start_body(self, package, version, rest):
        """What leads along the rest of the path, as far as this release has what is needed for it."""
        # Only the release that stands in the linkage is sure to have it; earlier ones must have the function alone.
        if len(rest) > 0 and named_version(self._known.needs(package, version), rest[0]) is not None:
            return ("do", ("call", rest[0], START, ()), MAKE)
        chains = [self._one, self._other]
        if len(rest) == 0 and all([sees(self._known, package, version, chain) for chain in chains]):
            return ("do", self.mixed(), MAKE)
        return MAKE

    def _fetches(self, package, version):
        """The function of a release that fetches a value along the one chain, in a list, an empty one elsewhere."""
        rest = self._shown_rest(self._one, package, version)
        if rest is None:
            return []
        if len(rest) == 0:
            return [(FETCH, (), OWN, MAKE)]
        return [(FETCH, (), rest[-1], ("call", rest[0], FETCH, ()))]

    def _hands(self, package, version):
        """The function of a release that hands a value along the other chain, in a list, an empty one elsewhere."""
        rest = self._shown_rest(self._other, package, version)
        if rest is None:
            return []
        if len(rest) == 0:
            return [(HAND, (OWN,), OWN, ("param", 0))]
        return [(HAND, (rest[-1],), rest[-1], ("call", rest[0], HAND, (("param", 0),)))]

    def _shown_rest(self, chain, package, version):
        """What stands in a chain behind the label of a release that shows it, None for another release."""
        rest = rest_behind(chain, (package, version[0]))
        if rest is None or len(rest) == 0 or shows(self._known, package, version, rest):
            return rest
        return None


def rest_behind(path, label):
    """What stands in a path behind this label, None if it does not stand there."""
    return path[path.index(label) + 1:] if label in path else None


def chains_under(linkage, path, label):
    """A chain to each of the copies that the copy at the path sees under the label."""
    project = linkage.project()
    registry = project.registry()
    waiting = []
    for need in needs_of(project, registry, linkage.release(path)):
        waiting.append((need[0], need[1], linkage.links(path)[need_label(need)], (need_label(need),)))
    followed = set()
    chains = {}
    while len(waiting) > 0:
        package, named, reached, chain = waiting.pop()
        if (package, named, reached) not in followed:
            followed.add((package, named, reached))
            if chain[-1] == label:
                chains.setdefault(reached, chain)
            for need in shown_needs(registry, package, named):
                links = linkage.links(reached)
                waiting.append((need[0], need[1], links[need_label(need)], chain + (need_label(need),)))
    return list(chains.values())
