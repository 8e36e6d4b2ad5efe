"""Projects: a registry, the needs of a main program, and locks."""

from leastlinks.errors import InvalidLocks, NoNeed, TooMany, UnknownRelease
from leastlinks.names import is_label, is_name, is_path, is_version
from leastlinks.registry import check_needs, first_unfit, need_label
from leastlinks.sight import is_led_by


def is_main_need(value):
    """Whether this is a tuple of a name and a version."""
    return isinstance(value, tuple) and len(value) == 2 and is_name(value[0]) and is_version(value[1])


def is_release_path(registry, value):
    """Whether this is a path that is not () and whose labels are labels of releases."""
    return is_path(value) and len(value) > 0 and all([registry.has_label(label) for label in value])


def is_release_at(registry, path, version):
    """Whether a path is one of releases, and a version that of a release with its last label."""
    if not is_release_path(registry, path) or not is_version(version):
        return False
    package, generation = path[-1]
    return version[0] == generation and registry.has_release(package, version)


def is_lock(registry, value):
    """Whether this is a tuple of a path and of the version of a release with its last label."""
    return isinstance(value, tuple) and len(value) == 2 and is_release_at(registry, value[0], value[1])


def lock_path(lock):
    """The path of a lock."""
    return lock[0]


class Project:
    """What a main program needs of a registry, and what is locked. It never changes."""

    MOST_LOCKS = 400

    def __init__(self, registry, needs=(), *, locks=()):
        self._registry = registry.clone()
        self._check_needs(needs)
        self._check_locks(locks)
        # The tuples are copied, so that no caller's own kind of tuple is kept.
        self._needs = sorted([(package, tuple(version)) for package, version in needs], key=need_label)
        self._locks = sorted([(tuple([tuple(label) for label in path]), tuple(version)) for path, version in locks])

    def registry(self):
        """A copy of the registry."""
        return self._registry.clone()

    def needs(self):
        """The needs, as listed."""
        return list(self._needs)

    def locks(self):
        """The locks, as listed."""
        return list(self._locks)

    def sees(self, chain):
        """Whether this is a chain that the main program sees."""
        return is_led_by(self._registry, self._needs, chain)

    def with_need(self, package, version):
        """The project with this need, in the place of one with the same label."""
        if not self._registry.has_release(package, version):
            raise UnknownRelease(package, version)
        need = (package, version)
        others = [other for other in self._needs if need_label(other) != need_label(need)]
        return Project(self._registry, others + [need], locks=self._locks)

    def without_need(self, label):
        """The project without the need with this label."""
        if not is_label(label) or label not in [need_label(need) for need in self._needs]:
            raise NoNeed(label)
        others = [need for need in self._needs if need_label(need) != label]
        return Project(self._registry, others, locks=self._locks)

    def with_locks(self, locks):
        """The project with these locks in the place of its own ones."""
        return Project(self._registry, self._needs, locks=locks)

    def __eq__(self, other):
        if not isinstance(other, Project):
            return False
        return self._registry == other._registry and self._needs == other._needs and self._locks == other._locks

    def __len__(self):
        return len(self._needs)

    def __repr__(self):
        return f"Project({self._needs!r}, {self._locks!r})"

    def _check_needs(self, needs):
        """Raise what stands against these needs."""
        check_needs(needs, is_main_need)
        for package, version in needs:
            if not self._registry.has_release(package, version):
                raise UnknownRelease(package, version)

    def _check_locks(self, locks):
        """Raise what stands against these locks."""
        if not isinstance(locks, (list, tuple)):
            raise InvalidLocks(None)
        position = first_unfit(locks, lambda value: is_lock(self._registry, value), lock_path)
        if position is not None:
            raise InvalidLocks(position)
        if len(locks) > self.MOST_LOCKS:
            raise TooMany("locks", self.MOST_LOCKS)
