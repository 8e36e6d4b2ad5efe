"""Drawn registries and projects, all linkages of small projects, and the definitions of the document by their words.

What stands here goes through all paths, and is slow therefore; it shares nothing with the program but its interface.
"""

import itertools

from leastlinks.errors import NotGrowing, NotRising
from leastlinks.linkages import Linkage
from leastlinks.projects import Project
from leastlinks.registry import Registry
from leastlinks.sight import seen_chains


def drawn_registry(chance, names="abcd", sole=0.2, releases=9, needs=3, shown=0.6):
    """A registry with these packages, in which generations have several steps and their needs grow."""
    registry = Registry.of(**{name: chance.random() < sole for name in names})
    for _ in range(releases * 3):
        if len(registry) < releases:
            package = chance.choice(names)
            earlier = [release for release in registry.releases() if names.index(release[0]) < names.index(package)]
            named = {}
            for used, version in chance.sample(earlier, min(len(earlier), chance.randrange(needs + 1))):
                named[(used, version[0])] = (used, version, chance.random() < shown)
            try:
                registry.publish(package, (chance.randrange(2), chance.randrange(4)), list(named.values()))
            except (NotGrowing, NotRising):
                continue
    return registry


def drawn_needs(chance, registry, most=3):
    """At most so many needs of a main program, with different labels."""
    releases = list(registry.releases())
    chosen = chance.sample(releases, min(len(releases), chance.randint(1, most)))
    return list({(package, version[0]): (package, version) for package, version in chosen}.values())


def drawn_locks(chance, registry, needs, most=3):
    """At most so many locks, many of them of paths that linkages have."""
    paths = named_paths(registry, needs)
    labels = sorted({(package, version[0]) for package, version in registry.releases()})
    locks = {}
    for _ in range(chance.randrange(most + 1)):
        path = chance.choice(paths) if paths and chance.random() < 0.8 else (chance.choice(labels),)
        package, generation = path[-1]
        steps = [version for version in registry.versions(package) if version[0] == generation]
        locks[path] = chance.choice(steps)
    return list(locks.items())


def drawn_project(chance, **settings):
    """A project with needs and locks over a drawn registry."""
    registry = drawn_registry(chance, **settings)
    needs = drawn_needs(chance, registry)
    return Project(registry, needs, locks=drawn_locks(chance, registry, needs))


def named_paths(registry, needs):
    """The paths that lead along the needs of named releases."""
    paths = []
    for package, version, *_ in needs:
        label = (package, version[0])
        paths.append((label,))
        paths += [(label,) + path for path in named_paths(registry, registry.needs(package, version))]
    return paths


def partitions(elements):
    """Yield all ways to part a list into groups."""
    if not elements:
        yield []
        return
    for rest in partitions(elements[1:]):
        yield [[elements[0]]] + rest
        for at in range(len(rest)):
            yield rest[:at] + [[elements[0]] + rest[at]] + rest[at + 1:]


def all_rows(project):
    """Yield rows for each linkage of a project."""
    registry = project.registry()

    def needs_at(rows, at):
        return project.needs() if at == 0 else registry.needs(*rows[at][0])

    def ways(package, rows):
        """The ways to choose copies of a package: lists of (release, slots)."""
        slots = {}
        for at in range(len(rows)):
            for used, version, *_ in needs_at(rows, at):
                if used == package:
                    slots.setdefault((used, version[0]), []).append((at, version))
        for chosen in itertools.product(*[list(partitions(slots[label])) for label in sorted(slots)]):
            groups = [(label, group) for label, parted in zip(sorted(slots), chosen) for group in parted]
            choices = []
            for label, group in groups:
                least = max(version for _, version in group)
                choices.append([version for version in registry.versions(package)
                                if version[0] == label[1] and version >= least])
            for versions in itertools.product(*choices):
                yield [((package, version), label, group) for version, (label, group) in zip(versions, groups)]

    def go_on(packages, rows):
        if not packages:
            yield rows
            return
        for copies in ways(packages[0], rows):
            more = [(release, dict(links)) for release, links in rows]
            for release, label, group in copies:
                for at, _ in group:
                    more[at][1][label] = len(more)
                more.append((release, {}))
            yield from go_on(packages[1:], more)

    yield from go_on(registry.packages()[::-1], [(None, {})])


def all_linkages(project, most=400):
    """All linkages of a project, None if there are more than so many."""
    rows = list(itertools.islice(all_rows(project), most + 1))
    return [Linkage(project, each) for each in rows] if len(rows) <= most else None


def main_chains(project):
    """The chains that the main program sees."""
    registry = project.registry()
    chains = []
    for package, version in project.needs():
        label = (package, version[0])
        chains.append((label,))
        chains += [(label,) + path for path in shown_chains(registry, package, version)]
    return chains


def shown_chains(registry, package, version):
    """The chains that a release shows."""
    chains = []
    for used, named, is_shown in registry.needs(package, version):
        if is_shown:
            label = (used, named[0])
            chains.append((label,))
            chains += [(label,) + chain for chain in shown_chains(registry, used, named)]
    return chains


def chains_of(linkage, path):
    """The chains that the release at a path sees, or the main program."""
    if path == ():
        return main_chains(linkage.project())
    return list(seen_chains(linkage.project().registry(), *linkage.release(path)))


def seen_by_the_words(linkage, path):
    """From each label to the sorted first paths of the copies that the copy at this path sees under it."""
    seen = {}
    for chain in chains_of(linkage, path):
        seen.setdefault(chain[-1], set()).add(linkage.first_path(path + chain))
    return {label: sorted(seen[label]) for label in sorted(seen)}


def is_solution_by_the_words(linkage):
    """Whether the three conditions hold."""
    project = linkage.project()
    registry = project.registry()
    sight = all(len(copies) == 1 for path in linkage.paths() for copies in seen_by_the_words(linkage, path).values())
    packages = [linkage.release(path)[0] for path in linkage.copies()[1:]]
    sole = not any(registry.is_sole(package) and packages.count(package) > 1 for package in packages)
    locks = all(not linkage.has_path(path) or linkage.release(path)[1] >= version for path, version in project.locks())
    return sight and sole and locks


def is_below_by_the_words(one, other):
    """Whether one linkage is below the other one, path by path."""
    paths = list(one.paths())
    if not all(other.has_path(path) for path in paths):
        return False
    for path in paths[1:]:
        if one.release(path)[1] > other.release(path)[1]:
            return False
    return all(other.are_copies(path, far) for path in paths for far in paths if one.are_copies(path, far))


def told(linkage):
    """All that the words count for two equal linkages: the paths, the releases there, and the copies."""
    return [(path, linkage.release(path), linkage.first_path(path)) for path in linkage.paths()]


def crowded_registry():
    """A registry with hidden needs alone, by which each part of a program gets copies of its own."""
    registry = Registry.of(a=False, b=False, c=False, d=False)

    def publish(package, generation, used, count):
        registry.publish(package, (generation, 0), [(used, (each, 0), False) for each in range(count)])

    for generation in range(6):
        publish("a", generation, "", 0)
    for used, package in [("a", "b"), ("b", "c")]:
        for generation in range(6):
            publish(package, generation, used, 6)
    publish("b", 6, "a", 4)
    publish("b", 7, "a", 5)
    publish("d", 0, "c", 6)
    return registry


def crowded_project(copies):
    """A project whose resolution has 400 copies, or 401."""
    needs = [("d", (0, 0)), ("c", (0, 0)), ("c", (1, 0)), ("c", (2, 0)), ("b", (0, 0))]
    return Project(crowded_registry(), needs + [("b", (6 if copies == 400 else 7, 0))])


def separate_rows(project):
    """Rows in which no two links lead to one copy."""
    registry = project.registry()
    rows = []

    def grow(release, needs):
        at = len(rows)
        rows.append((release, {}))
        for package, version, *_ in needs:
            rows[at][1][(package, version[0])] = grow((package, version), registry.needs(package, version))
        return at

    grow(None, project.needs())
    return rows
