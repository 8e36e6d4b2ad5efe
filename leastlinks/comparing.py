"""Comparing: linkages that are below others, joined copies, and the changes from one linkage to another one."""

from leastlinks.linkages import Linkage


def is_below(one, other):
    """Whether each path of the one is a path of the other with at least the same step, and copies are copies there."""
    rows = one.rows()
    others = other.rows()
    # From each copy of the one to that of the other to which all its paths have to lead.
    places = {0: 0}
    waiting = [0]
    while len(waiting) > 0:
        copy = waiting.pop()
        links = rows[copy][1]
        far_links = others[places[copy]][1]
        for label in links:
            if label not in far_links:
                return False
            near = links[label]
            far = far_links[label]
            if near not in places:
                if step_of(rows[near]) > step_of(others[far]):
                    return False
                places[near] = far
                waiting.append(near)
            if places[near] != far:
                return False
    return True


def step_of(row):
    """The step of the release of a copy that is not the main one."""
    return row[0][1][1]


def are_joinable(linkage, path, other):
    """Whether the copies at both paths are joinable. Raises UnknownPath."""
    places = {first: place for place, first in enumerate(linkage.copies())}
    one = places[linkage.first_path(path)]
    far = places[linkage.first_path(other)]
    kinds = join_kinds(linkage)
    return kinds[one] == kinds[far]


def joined(linkage):
    """The linkage with one copy in the place of all copies that are joinable with each other."""
    rows = linkage.rows()
    kinds = join_kinds(linkage)
    kept = []
    places = {}
    for copy, kind in enumerate(kinds):
        if kind not in places:
            places[kind] = len(kept)
            kept.append(rows[copy])
    result = []
    for release, links in kept:
        result.append((release, {label: places[kinds[links[label]]] for label in links}))
    return Linkage(linkage.project(), result)


def join_kinds(linkage):
    """For each copy, as listed, a number that just the copies that are joinable with it have, too."""
    rows = linkage.rows()
    packages = linkage.project().registry().packages()
    kinds = [0 for _ in rows]
    known = {}
    # Links lead to packages that were declared earlier, so what a copy links to has its number before.
    for package in packages:
        for copy, row in enumerate(rows):
            release, links = row
            if release is not None and release[0] == package:
                form = (release, tuple([(label, kinds[links[label]]) for label in links]))
                kinds[copy] = known.setdefault(form, len(known) + 1)
    return kinds


def changes(old, new):
    """The changes from one linkage to another one."""
    old_firsts = old.copies()[1:]
    new_firsts = new.copies()[1:]
    gone = [("gone", path) for path in old_firsts if not new.has_path(path)]
    come = [("new", path) for path in new_firsts if not old.has_path(path)]
    return gone + come + released(old, new) + together("joined", old_firsts, new) + together("parted", new_firsts, old)


def released(old, new):
    """The changes of releases at the first paths of the old linkage."""
    found = []
    for path in old.copies()[1:]:
        if new.has_path(path):
            version = old.release(path)[1]
            other = new.release(path)[1]
            if version != other:
                found.append(("release", path, version, other))
    return found


def together(word, paths, linkage):
    """For each of these sorted paths that is a copy of an earlier one in the linkage, the word with both."""
    earliest = {}
    found = []
    for path in paths:
        if linkage.has_path(path):
            first = linkage.first_path(path)
            if first in earliest:
                found.append((word, earliest[first], path))
            else:
                earliest[first] = path
    return sorted(found)
