"""Forming: the copies of a project's resolution, package by package, and what each of them rests on.

A SLOT is a tuple (user, label): a copy, told by its number, and the label of one of its needs. The copies of a package
are formed when all copies that were declared later are known, so each slot of it is known, too; what has to be settled
is just which of its slots lead to one copy.
"""

from leastlinks.errors import TooMany
from leastlinks.linkages import Linkage, place_at
from leastlinks.registry import need_label
from leastlinks.sight import shown_needs


def slot_label(slot):
    """The label of a slot."""
    return slot[1]


class Forming:
    """The copies of a project, as far as they are formed, the main copy first; each is told by its number."""

    def __init__(self, project):
        self._project = project
        self._registry = project.registry()
        self._locks = project.locks()
        # Each of these has one element for each copy.
        self._needs = []
        self._expected = []
        self.made = []
        self.firsts = []
        self.targets = []
        self.sources = []
        # From each slot to None, or to the next slot on the way to the one whose path is the first path of the copy,
        # and to why they lead to one copy: a tuple (copy, chain to this slot, chain to the next one), None for a sole
        # package.
        self.ways = {}
        # Two slots of a sole package with different labels.
        self.clash = None
        self._add_copy(None, (), None, project.needs())

    def form_all(self):
        """Form the copies of all packages, or of those before a clash. Raises TooMany."""
        for package in reversed(self._registry.packages()):
            if self.clash is None:
                self._form(package)

    def linkage(self):
        """The linkage of these copies."""
        return Linkage(self._project, list(zip(self.made, self.targets)))

    def slot_path(self, slot):
        """The first path of the user of a slot with the label behind it."""
        user, label = slot
        return self.firsts[user] + (label,)

    def copy_at(self, path):
        """The number of the copy to which this path leads, None if it leads to none."""
        return place_at(self.targets, path)

    def _add_copy(self, release, first, source, needs):
        """Add a copy with what its release must have its step for, and note what it sees by its needs."""
        copy = len(self.made)
        self._needs.append(needs)
        self._expected.append({})
        self.made.append(release)
        self.firsts.append(first)
        self.targets.append({})
        self.sources.append(source)
        for need in needs:
            self._expect(copy, need, copy, ())

    def _expect(self, viewer, need, user, chain):
        """Note that a copy will see, by a chain and this need behind it, what the user's link leads to."""
        label = need_label(need)
        self._expected[viewer].setdefault(label, []).append((need[1], (user, label), chain + (label,)))

    def _form(self, package):
        """Form the copies of a package, or note its clash. Raises TooMany."""
        named = self._slots_of(package)
        slots = sorted(list(named), key=self.slot_path)
        is_sole = self._registry.is_sole(package)
        others = [slot for slot in slots if slot_label(slot) != slot_label(slots[0])]
        if is_sole and len(others) > 0:
            self.clash = (slots[0], others[0])
            return
        bonds = self._sole_bonds(slots) if is_sole else self._sight_bonds(package, slots)
        locks = self._locks_by_slot(package)
        for slot in slots:
            # The slots stand in the sequence of their paths, so the first one of a copy has its first path.
            if slot not in self.ways:
                members = self._gather(slot, bonds)
                self._make(members, named, locks)
        if len(self.made) > Linkage.MOST_COPIES + 1:
            raise TooMany("copies", Linkage.MOST_COPIES)
        self._look_on(package)

    def _slots_of(self, package):
        """From each slot of a package to the version that the need there names."""
        named = {}
        for user, needs in enumerate(self._needs):
            for need in needs:
                if need[0] == package:
                    named[(user, need_label(need))] = need[1]
        return named

    def _sole_bonds(self, slots):
        """From each slot to the tuples (other slot, reason) of those that lead to its copy, for a sole package."""
        bonds = {slot: [] for slot in slots}
        for slot in slots[1:]:
            bonds[slots[0]].append((slot, None))
        return bonds

    def _sight_bonds(self, package, slots):
        """From each slot to the tuples (other slot, reason) of those that lead to its copy by sight."""
        bonds = {slot: [] for slot in slots}
        for viewer, expected in enumerate(self._expected):
            for label in expected:
                if label[0] == package:
                    _, slot, chain = expected[label][0]
                    for _, other, far in expected[label][1:]:
                        bonds[slot].append((other, (viewer, far, chain)))
                        bonds[other].append((slot, (viewer, chain, far)))
        return bonds

    def _locks_by_slot(self, package):
        """From each slot at which locks of a package end to these locks."""
        locks = {}
        for path, version in self._locks:
            if path[-1][0] == package:
                user = self.copy_at(path[:-1])
                if user is not None:
                    locks.setdefault((user, path[-1]), []).append((path, version))
        return locks

    def _gather(self, first, bonds):
        """The slots that lead to one copy with the first one; note the way of each to it."""
        self.ways[first] = None
        members = [first]
        at = 0
        # Nearer slots come first, so that the ways are short.
        while at < len(members):
            slot = members[at]
            at += 1
            for other, reason in bonds[slot]:
                if other not in self.ways:
                    self.ways[other] = (slot, reason)
                    members.append(other)
        return members

    def _make(self, members, named, locks):
        """Make the copy to which these slots lead, with the greatest release that a need or a lock names there."""
        package, generation = slot_label(members[0])
        source = None
        for slot in members:
            sources = [(named[slot], self.slot_path(slot), False)]
            sources += [(version, path, True) for path, version in locks.get(slot, [])]
            for found in sources:
                if source is None or found[0] > source[0]:
                    source = found
        version = source[0]
        copy = len(self.made)
        for user, label in members:
            self.targets[user][label] = copy
        self._add_copy((package, version), self.slot_path(members[0]), source, self._registry.needs(package, version))

    def _look_on(self, package):
        """Note what each copy sees behind the copies of a package that it sees."""
        for viewer in range(len(self.made)):
            labels = [each for each in self._expected[viewer] if each[0] == package]
            for label in labels:
                # A later release shows all that an earlier one does, so the latest named one is enough.
                named, slot, chain = max(self._expected[viewer][label])
                seen = self.targets[slot[0]][slot[1]]
                for need in shown_needs(self._registry, package, named):
                    self._expect(viewer, need, seen, chain)


def formed(project):
    """The formed copies of a project, all of them unless two slots clash. Raises TooMany."""
    forming = Forming(project)
    forming.form_all()
    return forming
