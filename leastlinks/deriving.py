"""Deriving: rows by which a fact of the resolution, or that there is no solution, follows step by step."""

from leastlinks.errors import InvalidFact
from leastlinks.facts import ABSURD, ATLEAST, SAME, holds, is_fact
from leastlinks.forming import formed
from leastlinks.judging import rows_under_last
from leastlinks.linkages import needs_of
from leastlinks.resolving import solved
from leastlinks.sight import named_version


def derive(project, fact):
    """A derivation of the fact, None if there is none. Raises InvalidFact, and as resolve."""
    if not is_fact(project, fact):
        raise InvalidFact(fact)
    forming = formed(project)
    if fact[0] == ABSURD:
        return None if forming.clash is None else Proof(project, forming).of_absurd()
    if not holds(solved(forming), fact):
        return None
    proof = Proof(project, forming)
    return proof.of_atleast(fact[1], fact[2]) if fact[0] == ATLEAST else proof.of_same(fact[1], fact[2])


def can_derive(project, fact):
    """Whether there is a derivation of the fact. Raises InvalidFact, and as resolve."""
    return derive(project, fact) is not None


class Proof:
    """Rows that derive facts of formed copies, each fact once.

    All that a row on the copies of one package rests on in the end are rows on copies of packages that were declared
    later, so asking for the premises of each row comes to an end.
    """

    def __init__(self, project, forming):
        self._project = project
        self._registry = project.registry()
        self._forming = forming
        self._rows = []
        # From each fact to the number of its row.
        self._numbers = {}

    def of_atleast(self, path, version):
        """A derivation of a fact of the form atleast that holds."""
        number = self._strongest(path)
        if self._rows[number][0][2] != version:
            number = self._row((ATLEAST, path, version), "less", (number,))
        return self._rows_under(number)

    def of_same(self, one, other):
        """A derivation of a fact of the form same that holds."""
        return self._rows_under(self._same(one, other))

    def of_absurd(self):
        """A derivation of the absurd fact from a clash."""
        slot, other = self._forming.clash
        return self._rows_under(self._row((ABSURD,), "absurd", (self._sole(slot, other),)))

    def _rows_under(self, number):
        """The derivation that ends with the row with this number."""
        return rows_under_last(self._rows[:number + 1])

    def _row(self, fact, rule, premises):
        """The number of the row with this fact, a new one if there is none."""
        if fact not in self._numbers:
            self._numbers[fact] = len(self._rows)
            self._rows.append((fact, rule, premises))
        return self._numbers[fact]

    def _needed(self, path):
        """The row that a path has at least what the copy before its last label needs there."""
        before = path[:-1]
        needs = needs_of(self._project, self._registry, self._forming.made[self._forming.copy_at(before)])
        fact = (ATLEAST, path, named_version(needs, path[-1]))
        if fact in self._numbers:
            return self._numbers[fact]
        if len(before) == 0:
            return self._row(fact, "main", ())
        return self._row(fact, "need", (self._strongest(before),))

    def _strongest(self, path):
        """The row that a path has at least the release of its copy."""
        copy = self._forming.copy_at(path)
        version, source, is_locked = self._forming.sources[copy]
        fact = (ATLEAST, path, version)
        if fact in self._numbers:
            return self._numbers[fact]
        number = self._needed(source)
        if is_locked:
            number = self._row((ATLEAST, source, version), "lock", (number,))
        if source == path:
            return number
        return self._row(fact, "transfer", (self._same(source, path), number))

    def _same(self, one, other):
        """The row that two paths of one copy are copies."""
        fact = (SAME, one, other)
        if fact in self._numbers:
            return self._numbers[fact]
        if one == other:
            return self._row(fact, "sight", self._ground_of(one[:-1]))
        return self._joined(self._way(one) + self._turned(self._way(other)))

    def _ground_of(self, path):
        """The premises of a row on what the copy at a path sees: none for the main copy."""
        return () if len(path) == 0 else (self._strongest(path),)

    def _way(self, path):
        """Rows that lead from a path to the first path of its copy, each to the path with which the next one begins."""
        numbers = self._to_slot(path)
        slot = (self._forming.copy_at(path[:-1]), path[-1])
        while self._forming.ways[slot] is not None:
            nearer, reason = self._forming.ways[slot]
            if reason is None:
                numbers.append(self._sole(slot, nearer))
            else:
                numbers.extend(self._sight(reason))
            slot = nearer
        return numbers

    def _to_slot(self, path):
        """The row that leads from a path to the path of its slot, in a list; an empty one if it is this path."""
        before = path[:-1]
        first = self._forming.firsts[self._forming.copy_at(before)]
        if before == first:
            return []
        fact = (SAME, path, first + path[-1:])
        if fact in self._numbers:
            return [self._numbers[fact]]
        return [self._row(fact, "below", (self._same(before, first), self._needed(path)))]

    def _sole(self, slot, other):
        """The row that two slots of a sole package lead to one copy."""
        path = self._forming.slot_path(slot)
        far = self._forming.slot_path(other)
        return self._row((SAME, path, far), "sole", (self._needed(path), self._needed(far)))

    def _sight(self, reason):
        """Rows that lead from the path of one slot to that of another one, since some copy sees both."""
        viewer, chain, far_chain = reason
        base = self._forming.firsts[viewer]
        path = base + chain
        far = base + far_chain
        number = self._row((SAME, path, far), "sight", self._ground_of(base))
        return self._turned(self._to_slot(path)) + [number] + self._to_slot(far)

    def _turned(self, numbers):
        """Rows that lead back from where these rows lead to."""
        turned = []
        for number in reversed(numbers):
            _, one, other = self._rows[number][0]
            turned.append(self._row((SAME, other, one), "turn", (number,)))
        return turned

    def _joined(self, numbers):
        """The row that leads from where the first one of these rows begins to where the last one leads to."""
        total = numbers[0]
        for number in numbers[1:]:
            fact = (SAME, self._rows[total][0][1], self._rows[number][0][2])
            total = self._row(fact, "join", (total, number))
        return total
