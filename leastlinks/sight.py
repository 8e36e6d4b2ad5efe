"""Sight: the chains and labels that a release shows, and that it sees.

Whoever sees, a release or the main program, begins a chain with any need of its own, and goes on along shown needs.
"""

from leastlinks.names import is_path
from leastlinks.registry import need_label


def shows(registry, package, version, chain):
    """Whether this is a chain that the release shows. Raises UnknownRelease."""
    return is_led_by(registry, shown_needs(registry, package, version), chain)


def sees(registry, package, version, chain):
    """Whether this is a chain that the release sees. Raises UnknownRelease."""
    return is_led_by(registry, registry.needs(package, version), chain)


def shown_labels(registry, package, version):
    """The sorted labels that the release shows. Raises UnknownRelease."""
    return last_labels(registry, shown_needs(registry, package, version))


def seen_labels(registry, package, version):
    """The sorted labels that the release sees. Raises UnknownRelease."""
    return last_labels(registry, registry.needs(package, version))


def seen_chains(registry, package, version):
    """Yield all chains that the release sees, in sorted order. Raises UnknownRelease when the iteration begins."""
    needs = registry.needs(package, version)
    yield from _led_chains(registry, needs)


def shown_needs(registry, package, version):
    """The shown needs of a release, as listed. Raises UnknownRelease."""
    return [need for need in registry.needs(package, version) if need[2]]


def named_version(needs, label):
    """The version that the need with this label names, None if none of the needs has it."""
    for need in needs:
        if need_label(need) == label:
            return need[1]
    return None


def is_led_by(registry, needs, chain):
    """Whether this is a chain that begins with one of these needs and goes on along shown ones."""
    if not is_path(chain) or len(chain) == 0:
        return False
    for label in chain:
        version = named_version(needs, label)
        if version is None:
            return False
        needs = shown_needs(registry, label[0], version)
    return True


def _led_chains(registry, needs):
    """Yield the chains that begin with one of these needs and go on along shown ones, in sorted order."""
    # The needs are listed by their labels, so going down each need in turn keeps the order.
    for need in needs:
        label = need_label(need)
        yield (label,)
        shown = shown_needs(registry, need[0], need[1])
        for chain in _led_chains(registry, shown):
            yield (label,) + chain


def last_labels(registry, needs):
    """The sorted last labels of the chains that begin with one of these needs and go on along shown ones."""
    # Each named release is followed once, because there can be far more chains than releases.
    waiting = list(needs)
    followed = set()
    labels = set()
    while len(waiting) > 0:
        need = waiting.pop()
        labels.add(need_label(need))
        if (need[0], need[1]) not in followed:
            followed.add((need[0], need[1]))
            waiting.extend(shown_needs(registry, need[0], need[1]))
    return sorted(labels)
