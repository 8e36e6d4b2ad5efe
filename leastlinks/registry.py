"""Registries: packages in sequence, and their releases with the needs of each."""

from leastlinks.errors import InvalidFlag, InvalidFunctions, InvalidName, InvalidNeeds, InvalidText, InvalidVersion
from leastlinks.errors import LostFunction, NameTaken, NotEarlier, NotGrowing, NotRising, TooMany
from leastlinks.errors import UnknownPackage, UnknownRelease
from leastlinks.names import is_label, is_name, is_version, version_in, version_text

SHOWN_MARK = "+"
PACKAGE_WORD = "package"
RELEASE_WORD = "release"
SOLE_WORD = "sole"


def is_need(value):
    """Whether this is a tuple of a name, a version and a bool."""
    if not isinstance(value, tuple) or len(value) != 3:
        return False
    return is_name(value[0]) and is_version(value[1]) and isinstance(value[2], bool)


def need_label(need):
    """The package of a need with the generation of its version."""
    return (need[0], need[1][0])


def first_unfit(listed, is_right, key_of):
    """The position of the first element that is not right or has the key of an earlier one, None if there is none."""
    keys = set()
    for position, element in enumerate(listed):
        if not is_right(element) or key_of(element) in keys:
            return position
        keys.add(key_of(element))
    return None


def check_needs(needs, is_right):
    """Raise InvalidNeeds or TooMany for needs that are not a few right ones with different labels."""
    if not isinstance(needs, (list, tuple)):
        raise InvalidNeeds(None)
    position = first_unfit(needs, is_right, need_label)
    if position is not None:
        raise InvalidNeeds(position)
    if len(needs) > Registry.MOST_NEEDS:
        raise TooMany("needs", Registry.MOST_NEEDS)


def is_kept(old, needs):
    """Whether one of the needs keeps this old one."""
    return any([keeps(new, old) for new in needs])


def keeps(new, old):
    """Whether a need has the label of an old one, no smaller step, and is shown if the old one is."""
    return need_label(new) == need_label(old) and new[1][1] >= old[1][1] and (new[2] or not old[2])


def need_text(need):
    """The package, a slash and the version, and a mark if the need is shown."""
    mark = SHOWN_MARK if need[2] else ""
    return f"{need[0]}/{version_text(need[1])}{mark}"


def need_in(text):
    """The need with this text, None if there is none."""
    is_shown = text.endswith(SHOWN_MARK)
    package, _, number = text.removesuffix(SHOWN_MARK).partition("/")
    version = version_in(number)
    if not is_name(package) or version is None:
        return None
    return (package, version, is_shown)


def package_text(package, sole):
    """What stands in the line of a package behind its first word."""
    return f"{package} {SOLE_WORD}" if sole else package


def package_parts(words):
    """The package with these words in its line, and whether it is sole; None if no line has them."""
    if len(words) == 0 or not is_name(words[0]) or words[1:] not in ([], [SOLE_WORD]):
        return None
    return (words[0], len(words) == 2)


def release_text(package, version, needs):
    """What stands in the line of a release with these needs behind its first word."""
    return " ".join([package, version_text(version)] + [need_text(need) for need in needs])


def release_parts(words):
    """The package, version and needs, in any sequence, with these words in a line; None if no line has them."""
    if len(words) < 2:
        return None
    version = version_in(words[1])
    needs = [need_in(word) for word in words[2:]]
    if not is_name(words[0]) or version is None or None in needs:
        return None
    return (words[0], version, needs)


def read_lines(text, takes):
    """Hand each line of a text to a function that tells whether a text may go on with it. Raises InvalidText."""
    if not isinstance(text, str):
        raise InvalidText(0)
    lines = text.split("\n")
    for number, line in enumerate(lines[:-1], start=1):
        if not takes(line):
            raise InvalidText(number)
    # What follows the last line feed is a line without one.
    if lines[-1] != "":
        raise InvalidText(len(lines))


def takes_line(registry, line):
    """Add what a line says to a registry, and tell whether a text may go on with it."""
    word, *words = line.split(" ")
    if word == PACKAGE_WORD:
        return takes_package(registry, words)
    return word == RELEASE_WORD and takes_release(registry, release_parts(words))


def takes_package(registry, words):
    """Declare the package that these words say, and tell whether a text may go on with it."""
    parts = package_parts(words)
    if parts is None:
        return False
    package, sole = parts
    try:
        registry.declare(package, sole=sole)
    except (NameTaken, TooMany):
        return False
    return True


def takes_release(registry, parts):
    """Publish the release with these parts, None for no parts, and tell whether a text may go on with it."""
    if parts is None or not is_next(registry, parts):
        return False
    try:
        registry.publish(*parts)
    except (TooMany, NotEarlier, UnknownRelease, NotGrowing, InvalidFunctions, LostFunction):
        return False
    return True


def is_next(registry, parts):
    """Whether the package was declared last, has smaller versions only, and the needs are as listed."""
    package, version, needs = parts[:3]
    if registry.packages()[-1:] != [package]:
        return False
    labels = [need_label(need) for need in needs]
    return labels == sorted(set(labels)) and all([earlier < version for earlier in registry.versions(package)])


class Registry:
    """Packages in the sequence in which they were declared, and their releases."""

    MOST_PACKAGES = 10
    MOST_RELEASES = 40
    MOST_NEEDS = 6

    def __init__(self):
        self._packages = []
        self._soles = {}
        # From the tuple (package, version) to the tuple of the needs, as listed.
        self._needs = {}

    @classmethod
    def of(cls, **packages):
        """A registry without releases; each keyword is a package, and its value says whether it is sole."""
        registry = cls()
        for package in packages:
            registry.declare(package, sole=packages[package])
        return registry

    @classmethod
    def read(cls, text):
        """The registry with this text. Raises InvalidText."""
        registry = cls()
        read_lines(text, lambda line: takes_line(registry, line))
        return registry

    def clone(self):
        """An independent copy."""
        result = Registry()
        result._take_over(self)
        return result

    def declare(self, package, *, sole=False):
        """Add a package at the end."""
        if not is_name(package):
            raise InvalidName(package)
        if not isinstance(sole, bool):
            raise InvalidFlag(sole)
        if package in self._soles:
            raise NameTaken(package)
        if len(self._packages) >= self.MOST_PACKAGES:
            raise TooMany("packages", self.MOST_PACKAGES)
        self._packages.append(package)
        self._soles[package] = sole

    def publish(self, package, version, needs=()):
        """Add a release with these needs, in any sequence."""
        self._check_release(package, version, needs)
        self._add_release(package, version, needs)

    def packages(self):
        """The packages, in sequence."""
        return list(self._packages)

    def is_sole(self, package):
        """Whether this package is sole."""
        if not self.has_package(package):
            raise UnknownPackage(package)
        return self._soles[package]

    def versions(self, package):
        """The sorted versions of the releases of this package."""
        if not self.has_package(package):
            raise UnknownPackage(package)
        return sorted([version for owner, version in self._needs if owner == package])

    def has_package(self, value):
        """Whether this is a package of the registry."""
        return is_name(value) and value in self._soles

    def has_label(self, value):
        """Whether this is the label of a release."""
        if not is_label(value):
            return False
        return any([value == (package, version[0]) for package, version in self._needs])

    def has_release(self, package, version):
        """Whether these are the package and the version of a release."""
        return is_name(package) and is_version(version) and (package, version) in self._needs

    def needs(self, package, version):
        """The needs of this release, as listed."""
        if not self.has_release(package, version):
            raise UnknownRelease(package, version)
        return list(self._needs[(package, version)])

    def releases(self):
        """Yield a tuple (package, version) for each release: by packages, then by rising versions."""
        for package in self.packages():
            for version in self.versions(package):
                yield (package, version)

    def __eq__(self, other):
        # A Library is a Registry by its class, and yet equal to none.
        if not isinstance(other, Registry) or self.__class__.__name__ != other.__class__.__name__:
            return False
        return self._has_same(other)

    def __len__(self):
        return len(self._needs)

    def __str__(self):
        return "".join([self._lines_of(package) for package in self._packages])

    def __repr__(self):
        return f"Registry({self._packages!r}, {len(self._needs)})"

    def _has_same(self, other):
        """Whether the packages in sequence, the sole ones, and the releases with their needs are equal."""
        return (self._packages, self._soles, self._needs) == (other._packages, other._soles, other._needs)

    def _take_over(self, other):
        """Have the packages, releases and needs of another registry, and no others."""
        self._packages = list(other._packages)
        self._soles = dict(other._soles)
        self._needs = {release: other._needs[release] for release in other._needs}

    def _lines_of(self, package):
        """The line of a package and the lines of its releases."""
        texts = [release_text(package, version, self._needs[(package, version)]) for version in self.versions(package)]
        lines = [f"{RELEASE_WORD} {text}\n" for text in texts]
        return f"{PACKAGE_WORD} {package_text(package, self._soles[package])}\n" + "".join(lines)

    def _check_release(self, package, version, needs):
        """Raise what stands against this release."""
        if not self.has_package(package):
            raise UnknownPackage(package)
        if not is_version(version):
            raise InvalidVersion(version)
        check_needs(needs, is_need)
        self._check_named(package, needs)
        self._check_growth(package, version, needs)
        if len(self._needs) >= self.MOST_RELEASES:
            raise TooMany("releases", self.MOST_RELEASES)

    def _check_named(self, user, needs):
        """Raise NotEarlier or UnknownRelease for the first need that names no release that the user may need."""
        earlier = self._packages[:self._packages.index(user)]
        for package, version, _ in needs:
            if package not in earlier:
                raise NotEarlier(user, package)
            if not self.has_release(package, version):
                raise UnknownRelease(package, version)

    def _check_growth(self, package, version, needs):
        """Raise NotRising or NotGrowing if the last release of the same label forbids this one."""
        before = self._last_of_label(package, version[0])
        if before is None:
            return
        if before[1] >= version[1]:
            raise NotRising(package, version)
        for old in self._needs[(package, before)]:
            if not is_kept(old, needs):
                raise NotGrowing(need_label(old))

    def _last_of_label(self, package, generation):
        """The version of the release of this label that was published last, None if there is none."""
        versions = [version for version in self.versions(package) if version[0] == generation]
        return versions[-1] if len(versions) > 0 else None

    def _add_release(self, package, version, needs):
        """Store a release that was checked."""
        # The tuples are copied, so that no caller's own kind of tuple is kept.
        listed = [(used, tuple(named), is_shown) for used, named, is_shown in sorted(needs, key=need_label)]
        self._needs[(package, tuple(version))] = tuple(listed)
