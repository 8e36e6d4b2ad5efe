"""Linkages: the copies of a program, and which copy each link leads to."""

from leastlinks.errors import InvalidLinkage, TooMany, UnknownPath
from leastlinks.names import is_count, is_label, is_path
from leastlinks.registry import need_label
from leastlinks.sight import shown_needs


def needs_of(project, registry, release):
    """The needs of a release of the project's registry, or of the main program for None."""
    if release is None:
        return project.needs()
    return registry.needs(release[0], release[1])


def is_release(registry, value):
    """Whether this is a tuple of the package and the version of a release."""
    return isinstance(value, tuple) and len(value) == 2 and registry.has_release(value[0], value[1])


def has_keys(value, labels):
    """Whether this is a dict whose keys are just these sorted labels."""
    if not isinstance(value, dict) or len(value) != len(labels):
        return False
    # Each key is looked at first, because a key of another kind can be equal to a label.
    if not all([is_label(key) for key in value]):
        return False
    return sorted(list(value)) == labels


def form_problem(project, registry, row, is_main):
    """The word for what is wrong with a row by itself, None if nothing is."""
    if not isinstance(row, tuple) or len(row) != 2:
        return "row"
    release, links = row
    if is_main and release is not None:
        return "release"
    if not is_main and not is_release(registry, release):
        return "release"
    if not has_keys(links, [need_label(need) for need in needs_of(project, registry, release)]):
        return "links"
    return None


def is_target(rows, need, position):
    """Whether this is the position of a row that will do for the need."""
    if not is_count(position) or not 1 <= position < len(rows):
        return False
    package, version = rows[position][0]
    return (package, version[0]) == need_label(need) and version[1] >= need[1][1]


def place_at(links, path):
    """The position to which a path leads from the first one of these dicts of links, None if it leads to none."""
    place = 0
    for label in path:
        place = links[place].get(label)
        if place is None:
            return None
    return place


def first_paths(rows):
    """From the position of each plain row to which a path leads to the first such path, in sorted order of these."""
    firsts = {}
    waiting = [((), 0)]
    # What waits last is next in sorted order, and what lies behind a position is then met by its first path, too.
    while len(waiting) > 0:
        path, position = waiting.pop()
        if position not in firsts:
            firsts[position] = path
            links = rows[position][1]
            for label in reversed(list(links)):
                waiting.append((path + (label,), links[label]))
    return firsts


def plain_rows(project, registry, rows):
    """The same rows in tuples and dicts of their own, the labels in sorted order."""
    plain = []
    for release, links in rows:
        labels = [need_label(need) for need in needs_of(project, registry, release)]
        own = None if release is None else (release[0], tuple(release[1]))
        plain.append((own, {label: links[label] for label in labels}))
    return plain


def check_rows(project, registry, rows):
    """Raise InvalidLinkage for rows whose forms or targets are wrong."""
    if not isinstance(rows, list) or len(rows) == 0:
        raise InvalidLinkage("rows", None)
    for position, row in enumerate(rows):
        problem = form_problem(project, registry, row, position == 0)
        if problem is not None:
            raise InvalidLinkage(problem, position)
    for position, row in enumerate(rows):
        release, links = row
        needs = needs_of(project, registry, release)
        if not all([is_target(rows, need, links[need_label(need)]) for need in needs]):
            raise InvalidLinkage("target", position)


class Linkage:
    """The copies of a project's program and their links. It never changes."""

    MOST_COPIES = 400

    def __init__(self, project, rows):
        registry = project.registry()
        check_rows(project, registry, rows)
        self._project = project
        self._registry = registry
        self._take_rows(plain_rows(project, registry, rows))
        # It is found out now, because a property that is read must change nothing.
        conflicts = [self.sight_conflict(), self.sole_conflict(), self.lock_conflict()]
        self._solves = conflicts == [None, None, None]

    @property
    def is_solution(self):
        """Whether no copy sees two copies under one label, no sole package has two, and each lock is kept."""
        return self._solves

    def project(self):
        """The project."""
        return self._project

    def rows(self):
        """Rows that make an equal linkage, the copies as listed."""
        rows = []
        for release, links in zip(self._releases, self._links):
            rows.append((release, {label: links[label] for label in links}))
        return rows

    def copies(self):
        """The sorted first paths of the copies."""
        return list(self._firsts)

    def has_path(self, value):
        """Whether this is a path of the linkage."""
        return self._copy_at(value) is not None

    def first_path(self, path):
        """The first path of the copy to which the path leads."""
        return self._firsts[self._known_copy(path)]

    def release(self, path):
        """The package and the version of the copy at the path, None for the main copy."""
        return self._releases[self._known_copy(path)]

    def links(self, path):
        """From the labels of the links of the copy at the path to the first paths of the copies to which they lead."""
        links = self._links[self._known_copy(path)]
        return {label: self._firsts[links[label]] for label in links}

    def are_copies(self, path, other):
        """Whether both paths lead to the same copy."""
        return self._known_copy(path) == self._known_copy(other)

    def seen(self, path):
        """From the labels under which the copy at the path sees copies to the sorted first paths of these."""
        seen = self._seen_by(self._known_copy(path))
        return {label: [self._firsts[copy] for copy in seen[label]] for label in seen}

    def paths(self):
        """Yield all paths of the linkage in sorted order."""
        waiting = [((), 0)]
        while len(waiting) > 0:
            path, copy = waiting.pop()
            yield path
            links = self._links[copy]
            for label in reversed(list(links)):
                waiting.append((path + (label,), links[label]))

    def sight_conflict(self):
        """The first copy that sees two copies under one label, with the first such label, None if there is none."""
        for copy, first in enumerate(self._firsts):
            seen = self._seen_by(copy)
            for label in seen:
                if len(seen[label]) > 1:
                    return (first, label)
        return None

    def sole_conflict(self):
        """The first sole package that has two copies, None if there is none."""
        packages = [release[0] for release in self._releases[1:]]
        for package in self._registry.packages():
            if self._registry.is_sole(package) and packages.count(package) > 1:
                return package
        return None

    def lock_conflict(self):
        """The first lock of a path of the linkage at which the release has a smaller step, None if there is none."""
        for path, version in self._project.locks():
            copy = self._copy_at(path)
            if copy is not None and self._releases[copy][1][1] < version[1]:
                return (path, version)
        return None

    def __eq__(self, other):
        if not isinstance(other, Linkage):
            return False
        return self._releases == other._releases and self._links == other._links

    def __len__(self):
        return len(self._firsts[1:])

    def __repr__(self):
        pairs = [(first, release[1]) for first, release in zip(self._firsts[1:], self._releases[1:])]
        return f"Linkage({pairs!r})"

    def _take_rows(self, rows):
        """Store what plain rows say, the copies by their first paths, so that equal linkages store the same."""
        firsts = first_paths(rows)
        for position in range(len(rows)):
            if position not in firsts:
                raise InvalidLinkage("reach", position)
        # One of the rows is that of the main copy, which does not count.
        if len(rows) > self.MOST_COPIES + 1:
            raise TooMany("copies", self.MOST_COPIES)
        places = {position: place for place, position in enumerate(firsts)}
        listed = [rows[position] for position in firsts]
        self._firsts = [firsts[position] for position in firsts]
        self._releases = [release for release, _ in listed]
        self._links = [{label: places[links[label]] for label in links} for _, links in listed]

    def _copy_at(self, value):
        """The number of the copy to which this path leads, None for a value that is no path of the linkage."""
        return place_at(self._links, value) if is_path(value) else None

    def _known_copy(self, value):
        """The number of the copy to which this path leads. Raises UnknownPath."""
        copy = self._copy_at(value)
        if copy is None:
            raise UnknownPath(value)
        return copy

    def _seen_by(self, copy):
        """From the sorted labels under which this copy sees copies to the sorted numbers of these."""
        needs = needs_of(self._project, self._registry, self._releases[copy])
        waiting = [(need[0], need[1], self._links[copy][need_label(need)]) for need in needs]
        followed = set()
        pairs = set()
        # A copy can be reached as several named releases, each of which shows its own needs.
        while len(waiting) > 0:
            package, named, reached = waiting.pop()
            if (package, named, reached) not in followed:
                followed.add((package, named, reached))
                pairs.add(((package, named[0]), reached))
                for need in shown_needs(self._registry, package, named):
                    waiting.append((need[0], need[1], self._links[reached][need_label(need)]))
        seen = {}
        for label, reached in sorted(pairs):
            seen.setdefault(label, []).append(reached)
        return seen
