"""The guarantees that speak of edits and of runs, over drawn workspaces."""

import random
import unittest

from leastlinks.comparing import is_below
from leastlinks.errors import Clash, TooManySteps
from leastlinks.mixing import mixing
from leastlinks.running import stray_calls
from leastlinks.workspaces import Workspace
from tests.coding import drawn_library, drawn_main_code, drawn_workspace, whole
from tests.drawing import drawn_needs, told
from tests.support import ErrorCase


def growing_edits(chance, library, needs):
    """Edits that add these needs, many of them as an older one that is raised later, each need's edits in sequence."""
    rows = []
    for package, version in needs:
        steps = [each for each in library.versions(package) if each[0] == version[0] and each < version]
        chosen = sorted(chance.sample(steps, chance.randint(0, len(steps)))) + [version]
        rows.append([("need", package, chosen[0])] + [("raise", package, each) for each in chosen[1:]])
    edits = []
    while rows:
        row = chance.choice(rows)
        edits.append(row.pop(0))
        rows = [row for row in rows if row]
    return edits


def with_edit(workspace, edit):
    """Perform an edit that adds or raises a need."""
    word, package, version = edit
    return workspace.add_need(package, version) if word == "need" else workspace.raise_need(package, version)


def is_refused(workspace, edits):
    """Whether one of these edits is refused with a clash; the workspace is then as before this edit."""
    for edit in edits:
        before = whole(workspace)
        try:
            with_edit(workspace, edit)
        except Clash:
            return before == whole(workspace)
    return False


def add_releases(chance, workspace):
    """Declare packages, and publish later releases and new generations of those that are there."""
    library = workspace.library()
    for package, version in library.releases():
        last = [each for each in library.versions(package) if each[0] == version[0]][-1]
        if version == last and chance.random() < 0.7:
            needs, functions = library.needs(package, version), library.functions(package, version)
            workspace.publish(package, (version[0], version[1] + chance.randint(1, 3)), needs, functions)
            workspace.publish(package, (version[0] + 10, 0), needs, functions)
    workspace.declare("late", sole=True)
    workspace.publish("late", (0, 0), [], [])


class GuaranteesTest(ErrorCase):
    def test_repeatable(self):
        chance = random.Random(131)
        counts = [0, 0]
        for _ in range(60):
            library = drawn_library(chance, sole=0.4)
            edits = growing_edits(chance, library, drawn_needs(chance, library, most=4))
            one, other = Workspace(library), Workspace(library)
            add_releases(chance, other)
            outcomes = [is_refused(each, edits) for each in (one, other)]
            counts[outcomes[0]] += 1
            self.assertEqual([outcomes[0], told(one.resolution)], [outcomes[1], told(other.resolution)])
            before = one.resolution
            add_releases(chance, one)
            self.assertEqual([before, told(before)], [one.resolution, told(one.resolution)])
        self.assertGreater(min(counts), 5)

    def test_growing_edits(self):
        chance = random.Random(132)
        some = 0
        for _ in range(80):
            library = drawn_library(chance, sole=0.1)
            needs = drawn_needs(chance, library, most=4)
            last = []
            for _ in range(3):
                workspace = Workspace(library)
                for edit in growing_edits(chance, library, needs):
                    old = workspace.resolution
                    if is_refused(workspace, [edit]):
                        last.append(None)
                        break
                    self.assertIs(True, is_below(old, workspace.resolution))
                    # A lock of all that is there holds what is there, and no more.
                    if chance.random() < 0.3:
                        old = workspace.resolution
                        workspace.lock()
                        self.assertEqual(old, workspace.resolution)
                    some += 1
                else:
                    last.append(told(workspace.resolution))
            self.assertEqual([last[0]] * 3, last)
        self.assertGreater(some, 300)

    def test_fewer_needs_and_no_locks_never_clash(self):
        chance = random.Random(133)
        some = 0
        for _ in range(60):
            workspace = drawn_workspace(chance)
            while workspace.project().needs():
                package, version = chance.choice(workspace.project().needs())
                workspace.drop_need((package, version[0]))
                if chance.random() < 0.3:
                    workspace.unlock()
                some += 1
            self.assertEqual([()], workspace.resolution.copies())
        self.assertGreater(some, 40)

    def test_safe_and_no_mixing_in_a_resolution(self):
        chance = random.Random(134)
        begun = 0
        for _ in range(60):
            workspace = drawn_workspace(chance)
            self.assertIs(True, workspace.resolution.is_solution)
            self.assertIsNone(mixing(workspace.resolution))
            for _ in range(4):
                expression = drawn_main_code(chance, workspace.project())
                try:
                    self.assertEqual([], stray_calls(workspace.resolution, expression))
                    begun += workspace.run(expression) is not None
                except TooManySteps:
                    continue
        self.assertGreater(begun, 100)


if __name__ == "__main__":
    unittest.main()
