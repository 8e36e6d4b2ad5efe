"""Sight: the chains and labels that a release shows, and that it sees."""

from leastlinks.errors import UnknownRelease
from leastlinks.names import is_path
from leastlinks.registry import need_label


def shows(registry, package, version, chain):
    """Whether this is a chain that the release shows."""
    return _follows(registry, package, version, chain, True)


def sees(registry, package, version, chain):
    """Whether this is a chain that the release sees."""
    return _follows(registry, package, version, chain, False)


def shown_labels(registry, package, version):
    """The sorted labels that the release shows."""
    return _last_labels(registry, package, version, True)


def seen_labels(registry, package, version):
    """The sorted labels that the release sees."""
    return _last_labels(registry, package, version, False)


def seen_chains(registry, package, version):
    """Yield all chains that the release sees, in sorted order."""
    # The needs are listed by their labels, so going down each need in turn keeps the order.
    for need in registry.needs(package, version):
        label = need_label(need)
        yield (label,)
        used = need[0]
        named = need[1]
        for chain in seen_chains(registry, used, named):
            yield (label,) + chain


def _needs_followed(registry, package, version, only_shown):
    """The needs of a release, all or only the shown ones. Raises UnknownRelease."""
    return [need for need in registry.needs(package, version) if need[2] or not only_shown]


def _follows(registry, package, version, chain, only_shown):
    """Whether this is a chain that leads from the release along needs, all or only the shown ones."""
    if not registry.has_release(package, version):
        raise UnknownRelease(package, version)
    if not is_path(chain) or len(chain) == 0:
        return False
    for label in chain:
        needs = [need for need in _needs_followed(registry, package, version, only_shown) if need_label(need) == label]
        if len(needs) == 0:
            return False
        package, version, _ = needs[0]
    return True


def _last_labels(registry, package, version, only_shown):
    """The sorted last labels of the chains that lead from the release along needs, all or only the shown ones."""
    # Each named release is followed once, because there can be far more chains than releases.
    needs = _needs_followed(registry, package, version, only_shown)
    followed = set()
    labels = set()
    while len(needs) > 0:
        used, named, _ = needs.pop()
        labels.add((used, named[0]))
        if (used, named) not in followed:
            followed.add((used, named))
            needs.extend(_needs_followed(registry, used, named, only_shown))
    return sorted(labels)
