import random
import unittest

from leastlinks.comparing import changes
from leastlinks.errors import Clash, InvalidCode, InvalidCount, InvalidFlag, InvalidFunctions, InvalidName, InvalidNeeds
from leastlinks.errors import InvalidVersion, LabelTaken, LostFunction, NameTaken, NoNeed, NotCopies, NotEarlier, NotGrowing
from leastlinks.errors import NothingToUndo, NotRising, TooMany, TooManySteps, UnknownPackage, UnknownPath, UnknownRelease
from leastlinks.judging import is_derivation
from leastlinks.library import Library
from leastlinks.linkages import Linkage
from leastlinks.projects import Project
from leastlinks.resolving import resolve
from leastlinks.workspaces import Workspace
from tests.coding import clashing_library, crowded_library, drawn_workspace, fonts_library, whole, with_counters
from tests.support import EqualToAll, ErrorCase, NoComparing, everything, odd_values

FONT, PAGE = ("font", 1), ("page", 1)
FONT_PATH, PAGE_PATH = (FONT,), (PAGE,)
NEW, PICK = ("call", FONT, "new", ()), ("call", PAGE, "pick", ())
MAKE = ("make", 1)
NO_LABELS = [("font", 2), ("lid", 1), ("font", True), ["font", 1], "font", (("font", 1),), ("font", (1, 0)), ("font", 1, 1)]


def fonts():
    """A new workspace over fonts and pages."""
    return Workspace(fonts_library())


def paged():
    """A workspace whose main program needs page 1.1 and font 1.0."""
    workspace = fonts()
    workspace.add_need("page", (1, 1))
    workspace.add_need("font", (1, 0))
    return workspace


class WorkspaceCase(ErrorCase):
    def assert_kept(self, workspace, error, told, call, *args, **named):
        """The call raises this error and leaves the workspace as it was."""
        before = whole(workspace)
        self.assert_fails(error, told, call, *args, **named)
        self.assertEqual(before, whole(workspace))


class NewTest(WorkspaceCase):
    def test_a_new_workspace(self):
        workspace = fonts()
        self.assertEqual([0, [], 1000], [len(workspace), workspace.edits(), workspace.step_limit])
        self.assertEqual("Workspace([])", repr(workspace))
        self.assertEqual(fonts_library(), workspace.library())
        self.assertEqual(Project(fonts_library()), workspace.project())
        self.assertEqual([[()], Project(fonts_library())], [workspace.resolution.copies(), workspace.resolution.project()])
        self.assertEqual(workspace, Workspace(library=fonts_library()))

    def test_the_library_is_copied(self):
        library = fonts_library()
        workspace, other = Workspace(library), Workspace(library)
        library.declare("lid")
        workspace.declare("cap")
        found = [each.library().packages() for each in (workspace, other)]
        self.assertEqual([["font", "page", "cap"], ["font", "page"]], found)
        workspace.library().declare("pin")
        workspace.project().registry().declare("pin")
        workspace.resolution.project().registry().declare("pin")
        self.assertEqual([["font", "page", "cap"], ["font", "page", "lid"]], [workspace.library().packages(), library.packages()])

    def test_the_library_of_the_project(self):
        workspace = paged()
        self.assertIs(Library, workspace.library().__class__)
        self.assertEqual(workspace.library(), workspace.project().registry())
        self.assertEqual(workspace.project(), workspace.resolution.project())
        self.assertEqual("Workspace([('font', (1, 0)), ('page', (1, 1))])", repr(workspace))


class LibraryEditsTest(WorkspaceCase):
    def test_declare(self):
        workspace = fonts()
        self.assertIsNone(workspace.declare("lid"))
        self.assertIsNone(workspace.declare(package="cap", sole=True))
        library = workspace.library()
        self.assertEqual(["font", "page", "lid", "cap"], library.packages())
        self.assertEqual([False, True], [library.is_sole("lid"), library.is_sole("cap")])
        self.assertEqual([("declare", "lid", False), ("declare", "cap", True)], workspace.edits())
        with self.assertRaises(TypeError):
            workspace.declare("pin", True)

    def test_declare_is_refused(self):
        workspace = fonts()
        for value in odd_values() + ["Lid"]:
            self.assert_kept(workspace, InvalidName, {"value": value}, workspace.declare, value, sole=None)
        for value in [0, 1, None, "", EqualToAll()]:
            self.assert_kept(workspace, InvalidFlag, {"value": value}, workspace.declare, "font", sole=value)
        self.assert_kept(workspace, NameTaken, {"value": "font"}, workspace.declare, "font")
        for letter in "abcdefgh":
            workspace.declare(letter)
        self.assert_kept(workspace, TooMany, {"kind": "packages", "limit": 10}, workspace.declare, "i")

    def test_publish(self):
        workspace = fonts()
        needs = [("font", (1, 1), False), ("font", (1, 0), True)]
        self.assert_kept(workspace, InvalidNeeds, {"position": 1}, workspace.publish, "page", (2, 0), needs)
        function = ("f", (), "own", MAKE)
        self.assertIsNone(workspace.publish("page", (2, 0), needs[:1], [function]))
        self.assertIsNone(workspace.publish(package="font", version=(0, 0), needs=(), functions=()))
        self.assertIsNone(workspace.publish("page", (3, 0), (("font", (1, 0), True), ("font", (0, 0), False)), (function,)))
        library = workspace.library()
        self.assertEqual([[function], needs[:1]], [library.functions("page", (2, 0)), library.needs("page", (2, 0))])
        self.assertEqual([
            ("publish", "page", (2, 0), [("font", (1, 1), False)], [function]), ("publish", "font", (0, 0), [], []),
            ("publish", "page", (3, 0), [("font", (0, 0), False), ("font", (1, 0), True)], [function]),
        ], workspace.edits())

    def test_publish_copies_what_it_is_given(self):
        workspace = fonts()
        needs, functions = [("font", (1, 0), True)], [("f", (), "own", MAKE)]
        workspace.publish("page", (2, 0), needs, functions)
        before = whole(workspace)
        needs.clear()
        functions.append(None)
        workspace.edits()[0][3].clear()
        workspace.edits()[0][4].append(1)
        workspace.edits().clear()
        self.assertEqual(before, whole(workspace))

    def test_publish_is_refused_as_by_the_library(self):
        workspace = paged()
        for error, told, arguments in [
            (UnknownPackage, {"value": "lid"}, ("lid", (1, 0))), (InvalidVersion, {"value": (1, True)}, ("font", (1, True))),
            (InvalidNeeds, {"position": None}, ("font", (1, 2), None)),
            (NotEarlier, {"user": "font", "used": "page"}, ("font", (2, 0), [("page", (1, 0), True)])),
            (UnknownRelease, {"package": "font", "version": (9, 0)}, ("page", (2, 0), [("font", (9, 0), True)])),
            (NotRising, {"package": "font", "version": (1, 1)}, ("font", (1, 1))),
            (NotGrowing, {"label": FONT}, ("page", (1, 2))),
            (InvalidFunctions, {"problem": "functions", "position": None}, ("font", (1, 2), (), None)),
            (InvalidFunctions, {"problem": "form", "position": 0}, ("font", (1, 2), (), [None])),
            (TooMany, {"kind": "functions", "limit": 4}, ("font", (1, 2), (), [None] * 5)),
            (LostFunction, {"name": "new"}, ("font", (1, 2))),
        ]:
            self.assert_kept(workspace, error, told, workspace.publish, *arguments)

    def test_the_resolution_stays_and_has_the_new_project(self):
        workspace = paged()
        before = workspace.resolution
        workspace.declare("lid")
        workspace.publish("font", (1, 2), [], workspace.library().functions("font", (1, 1)))
        self.assertEqual(before, workspace.resolution)
        self.assertEqual(workspace.project(), workspace.resolution.project())
        self.assertEqual([True, False], [each.project().registry().has_package("lid") for each in (workspace.resolution, before)])
        self.assertEqual([("release", FONT_PATH, (1, 1), (1, 2))], workspace.raise_need("font", (1, 2)))


class NeedsTest(WorkspaceCase):
    def test_add_need(self):
        workspace = fonts()
        self.assertEqual([("new", PAGE_PATH), ("new", (PAGE, FONT))], workspace.add_need("page", (1, 1)))
        self.assertEqual([("new", FONT_PATH)], workspace.add_need(package="font", version=(1, 0)))
        self.assertEqual([("font", (1, 0)), ("page", (1, 1))], workspace.project().needs())
        self.assertEqual([(), FONT_PATH, PAGE_PATH], workspace.resolution.copies())
        self.assertEqual([("need", "page", (1, 1)), ("need", "font", (1, 0))], workspace.edits())

    def test_add_need_is_refused(self):
        workspace = paged()
        for value in odd_values() + ["lid", (1, 2)]:
            self.assert_kept(workspace, UnknownRelease, {"package": value, "version": (1, 0)}, workspace.add_need, value, (1, 0))
            self.assert_kept(workspace, UnknownRelease, {"package": "font", "version": value}, workspace.add_need, "font", value)
        for version in [(1, 0), (1, 1)]:
            self.assert_kept(workspace, LabelTaken, {"label": FONT}, workspace.add_need, "font", version)

    def test_the_seventh_need_and_a_taken_label_before_it(self):
        workspace = fonts()
        for generation in range(2, 9):
            workspace.publish("font", (generation, 0))
        for generation in range(2, 8):
            workspace.add_need("font", (generation, 0))
        self.assert_kept(workspace, LabelTaken, {"label": ("font", 7)}, workspace.add_need, "font", (7, 0))
        self.assert_kept(workspace, TooMany, {"kind": "needs", "limit": 6}, workspace.add_need, "font", (8, 0))
        self.assertEqual([("gone", (("font", 2),))], workspace.drop_need(("font", 2)))
        self.assertEqual([("new", (("font", 8),))], workspace.add_need("font", (8, 0)))

    def test_add_need_after_which_resolving_raises(self):
        workspace = Workspace(clashing_library())
        workspace.add_need("ear", (1, 0))
        self.assert_kept(workspace, Clash, {"package": "log"}, workspace.add_need, "eye", (1, 0))
        self.assertEqual([("gone", (("ear", 1),)), ("gone", (("ear", 1), ("log", 1)))], workspace.drop_need(("ear", 1)))
        workspace.add_need("eye", (1, 0))
        crowd = Workspace(crowded_library())
        crowd.add_need("x", (1, 0))
        self.assert_kept(crowd, TooMany, {"kind": "copies", "limit": 400}, crowd.add_need, "y", (1, 0))

    def test_raise_need(self):
        workspace = fonts()
        workspace.add_need("page", (1, 0))
        workspace.add_need("font", (1, 0))
        self.assertEqual([("release", FONT_PATH, (1, 0), (1, 1)), ("release", PAGE_PATH, (1, 0), (1, 1))],
                         workspace.raise_need("page", (1, 1)))
        self.assertEqual([], workspace.raise_need(package="font", version=(1, 1)))
        self.assertEqual([("font", (1, 1)), ("page", (1, 1))], workspace.project().needs())
        self.assertEqual([("raise", "page", (1, 1)), ("raise", "font", (1, 1))], workspace.edits()[2:])

    def test_raise_need_is_refused(self):
        workspace = fonts()
        workspace.publish("font", (2, 0))
        workspace.add_need("font", (1, 1))
        for value in odd_values():
            self.assert_kept(workspace, UnknownRelease, {"package": value, "version": (1, 0)}, workspace.raise_need, value,
                             (1, 0))
            self.assert_kept(workspace, UnknownRelease, {"package": "font", "version": value}, workspace.raise_need, "font",
                             value)
        self.assert_kept(workspace, NoNeed, {"label": PAGE}, workspace.raise_need, "page", (1, 0))
        self.assert_kept(workspace, NoNeed, {"label": ("font", 2)}, workspace.raise_need, "font", (2, 0))
        for version in [(1, 1), (1, 0)]:
            self.assert_kept(workspace, NotRising, {"package": "font", "version": version}, workspace.raise_need, "font", version)

    def test_raise_need_after_which_resolving_raises(self):
        workspace = Workspace(clashing_library())
        workspace.add_need("ear", (1, 0))
        self.assert_kept(workspace, Clash, {"package": "log"}, workspace.raise_need, "ear", (1, 1))
        crowd = Workspace(crowded_library())
        crowd.publish("h", (2, 0))
        crowd.publish("h", (2, 1), [("x", (1, 0), False), ("y", (1, 0), False)])
        crowd.add_need("h", (2, 0))
        self.assert_kept(crowd, TooMany, {"kind": "copies", "limit": 400}, crowd.raise_need, "h", (2, 1))

    def test_drop_need(self):
        workspace = paged()
        self.assertEqual([("gone", PAGE_PATH), ("release", FONT_PATH, (1, 1), (1, 0))], workspace.drop_need(PAGE))
        self.assertEqual([("gone", FONT_PATH)], workspace.drop_need(label=FONT))
        self.assertEqual([[], [("drop", PAGE), ("drop", FONT)]], [workspace.project().needs(), workspace.edits()[2:]])

    def test_drop_need_parts_copies(self):
        workspace = paged()
        workspace.publish("page", (2, 0), [("font", (1, 0), False)])
        workspace.add_need("page", (2, 0))
        self.assertEqual([("gone", FONT_PATH)], workspace.drop_need(FONT))
        self.assertEqual([(), (PAGE,), (PAGE, FONT), (("page", 2),), (("page", 2), FONT)], workspace.resolution.copies())
        library = Library()
        for package in "dxyh":
            library.declare(package)
        library.publish("d", (0, 0))
        for package in "xy":
            library.publish(package, (0, 0), [("d", (0, 0), False)])
            library.publish(package, (0, 1), [("d", (0, 0), True)])
        library.publish("h", (0, 0), [("x", (0, 1), True), ("y", (0, 1), True)])
        other = Workspace(library)
        for package in "hxy":
            other.add_need(package, (0, 0))
        d, h, x, y = [(package, 0) for package in "dhxy"]
        told = [("gone", (h,)), ("gone", (h, x)), ("gone", (h, x, d)), ("gone", (h, y)), ("parted", (x, d), (y, d))]
        self.assertEqual(told, other.drop_need(h))

    def test_drop_need_is_refused(self):
        workspace = paged()
        for value in odd_values() + NO_LABELS:
            self.assert_kept(workspace, NoNeed, {"label": value}, workspace.drop_need, value)
        crowd = Workspace(crowded_library())
        for package in ["h", "x", "y"]:
            crowd.add_need(package, (1, 0))
        self.assert_kept(crowd, TooMany, {"kind": "copies", "limit": 400}, crowd.drop_need, ("h", 1))
        self.assertEqual(262, len(crowd.resolution))


class LockTest(WorkspaceCase):
    def test_lock(self):
        workspace = paged()
        before = workspace.resolution
        self.assertEqual(2, workspace.lock())
        self.assertEqual([(FONT_PATH, (1, 1)), (PAGE_PATH, (1, 1))], workspace.project().locks())
        self.assertEqual([before, workspace.project()], [workspace.resolution, workspace.resolution.project()])
        self.assertEqual([("lock",), 3], [workspace.edits()[-1], len(workspace)])

    def test_a_lock_holds_and_unlock_removes_it(self):
        workspace = paged()
        workspace.lock()
        self.assertEqual([("gone", PAGE_PATH)], workspace.drop_need(PAGE))
        self.assertEqual(("font", (1, 1)), workspace.resolution.release(FONT_PATH))
        self.assertEqual([("release", FONT_PATH, (1, 1), (1, 0))], workspace.unlock())
        self.assertEqual([[], [("lock",), ("drop", PAGE), ("unlock",)]], [workspace.project().locks(), workspace.edits()[2:]])

    def test_lock_again_removes_earlier_locks(self):
        workspace = paged()
        workspace.lock()
        workspace.drop_need(PAGE)
        self.assertEqual([1, [(FONT_PATH, (1, 1))]], [workspace.lock(), workspace.project().locks()])
        workspace.unlock()
        workspace.add_need("page", (1, 0))
        self.assertEqual(2, workspace.lock())
        self.assertEqual([(FONT_PATH, (1, 0)), (PAGE_PATH, (1, 0))], workspace.project().locks())

    def test_locks_of_a_copy_at_its_first_path_alone(self):
        workspace = fonts()
        workspace.add_need("page", (1, 0))
        self.assertEqual([2, [(PAGE_PATH, (1, 0)), ((PAGE, FONT), (1, 0))]], [workspace.lock(), workspace.project().locks()])
        workspace.add_need("font", (1, 0))
        self.assertEqual([2, [(FONT_PATH, (1, 0)), (PAGE_PATH, (1, 0))]], [workspace.lock(), workspace.project().locks()])

    def test_nothing_to_lock(self):
        workspace = fonts()
        self.assertEqual([0, [], [("lock",), ("unlock",)]], [workspace.lock(), workspace.unlock(), workspace.edits()])

    def test_edits_behind_a_lock(self):
        workspace = fonts()
        workspace.add_need("page", (1, 0))
        workspace.lock()
        self.assertEqual([("release", PAGE_PATH, (1, 0), (1, 1)), ("release", (PAGE, FONT), (1, 0), (1, 1))],
                         workspace.raise_need("page", (1, 1)))
        self.assertEqual([(PAGE_PATH, (1, 0)), ((PAGE, FONT), (1, 0))], workspace.project().locks())
        workspace.declare("lid")
        self.assertEqual(2, len(workspace.project().locks()))

    def test_unlock_after_which_resolving_raises(self):
        workspace = Workspace(crowded_library())
        workspace.add_need("z", (1, 1))
        self.assertEqual(262, workspace.lock())
        workspace.drop_need(("z", 1))
        workspace.add_need("z", (1, 0))
        self.assertEqual(262, len(workspace.resolution))
        self.assert_kept(workspace, TooMany, {"kind": "copies", "limit": 400}, workspace.unlock)


class UndoTest(WorkspaceCase):
    def edits(self):
        """Edits of each kind, with edits that change nothing."""
        needs = [("font", (1, 0), True)]
        return [
            lambda each: each.declare("lid", sole=True), lambda each: each.publish("page", (2, 0), needs, []),
            lambda each: each.add_need("page", (2, 0)), lambda each: each.add_need("font", (1, 0)),
            lambda each: each.lock(), lambda each: each.lock(),
            lambda each: each.raise_need("font", (1, 1)), lambda each: each.drop_need(("page", 2)),
            lambda each: each.unlock(), lambda each: each.unlock(),
        ]

    def test_undo_of_each_edit(self):
        workspace = fonts()
        workspace.step_limit = 7
        seen = [whole(workspace)]
        for edit in self.edits():
            edit(workspace)
            seen.append(whole(workspace))
            self.assertEqual(len(seen) - 1, len(workspace))
        for count in range(1, len(seen)):
            for steps in range(count, len(seen), count):
                other = workspace.clone()
                before = other.resolution
                told = [other.undo(count) for _ in range(steps // count)]
                self.assertEqual(seen[-1 - steps], whole(other))
                if len(told) == 1:
                    self.assertEqual(changes(before, other.resolution), told[0])
        self.assertEqual(seen[-1], whole(workspace))

    def test_what_undo_returns(self):
        workspace = paged()
        workspace.lock()
        workspace.drop_need(PAGE)
        self.assertEqual([], workspace.undo(count=1)[2:])
        workspace.drop_need(PAGE)
        workspace.unlock()
        self.assertEqual([("new", PAGE_PATH), ("release", FONT_PATH, (1, 0), (1, 1))], workspace.undo(2))
        self.assertEqual([], workspace.undo())
        self.assertEqual([("gone", FONT_PATH), ("gone", PAGE_PATH)], workspace.undo(2))

    def test_edits_that_were_refused_do_not_count(self):
        workspace = fonts()
        workspace.add_need("page", (1, 0))
        self.assert_kept(workspace, LabelTaken, {"label": PAGE}, workspace.add_need, "page", (1, 1))
        self.assert_kept(workspace, NoNeed, {"label": FONT}, workspace.drop_need, FONT)
        self.assertEqual([("gone", PAGE_PATH), ("gone", (PAGE, FONT))], workspace.undo())
        self.assertEqual(fonts(), workspace)

    def test_wrong_counts(self):
        workspace = paged()
        for value in [0, -1, True, False, None, "1", (), [], {}, (1,), NoComparing(), -(10 ** 29)]:
            self.assert_kept(workspace, InvalidCount, {"value": value}, workspace.undo, value)
        for count in [3, 4, 10 ** 29]:
            self.assert_kept(workspace, NothingToUndo, {}, workspace.undo, count)
        self.assert_kept(fonts(), NothingToUndo, {}, fonts().undo)
        self.assertEqual([("gone", FONT_PATH), ("gone", PAGE_PATH)], workspace.undo(2))
        self.assert_kept(workspace, NothingToUndo, {}, workspace.undo)
        self.assert_kept(workspace, InvalidCount, {"value": 0}, workspace.undo, 0)

    def test_edits_after_an_undo(self):
        workspace = paged()
        workspace.undo()
        workspace.add_need("font", (1, 1))
        self.assertEqual([("need", "page", (1, 1)), ("need", "font", (1, 1))], workspace.edits())
        workspace.undo(2)
        self.assertEqual([[], fonts()], [workspace.edits(), workspace])

    def test_undo_of_library_edits(self):
        workspace = fonts()
        workspace.declare("lid")
        workspace.publish("lid", (0, 0))
        workspace.add_need("lid", (0, 0))
        self.assertEqual([("gone", (("lid", 0),))], workspace.undo(2))
        self.assertEqual([["font", "page", "lid"], []], [workspace.library().packages(), workspace.library().versions("lid")])
        self.assertIsNone(workspace.publish("lid", (5, 5)))


class StepLimitTest(WorkspaceCase):
    def test_its_bounds(self):
        workspace = fonts()
        for value in [1, 2, 999, 10000]:
            workspace.step_limit = value
            self.assertEqual(value, workspace.step_limit)
        for value in [0, -1, 10001, 10 ** 29, True, False, None, "5", (5,), [], {}, b"5", NoComparing()]:
            self.assert_kept(workspace, InvalidCount, {"value": value}, setattr, workspace, "step_limit", value)
        self.assertEqual([10000, 0], [workspace.step_limit, len(workspace)])

    def test_undo_leaves_it(self):
        workspace = fonts()
        workspace.step_limit = 5
        workspace.add_need("page", (1, 0))
        workspace.step_limit = 6
        workspace.undo()
        self.assertEqual(6, workspace.step_limit)

    def test_the_limit_of_run(self):
        workspace = Workspace(with_counters(fonts_library()))
        workspace.add_need("n", (0, 0))
        workspace.add_need("page", (1, 0))
        most, one = ("call", ("n", 0), "most", ()), ("call", ("n", 0), "one", ())
        exactly = ("do", most, ("do", one, ("do", one, one)))
        over = ("do", exactly, one)
        self.assertEqual(((("n", 0),), 1), workspace.run(exactly))
        self.assert_kept(workspace, TooManySteps, {"limit": 1000}, workspace.run, over)
        workspace.step_limit = 1001
        self.assertEqual(((("n", 0),), 1), workspace.run(over))
        workspace.step_limit = 1
        self.assert_kept(workspace, TooManySteps, {"limit": 1}, workspace.run, PICK)
        self.assertEqual(((), 1), workspace.run(MAKE))


class AskTest(WorkspaceCase):
    def test_run(self):
        workspace = paged()
        self.assertEqual((FONT_PATH, 7), workspace.run(PICK))
        self.assertEqual((FONT_PATH, 7), workspace.run(expression=NEW))
        before = whole(workspace)
        for value in odd_values() + [("param", 0), ("call", FONT, "add", (NEW,)), ("call", None, "new", ()), ("plus", NEW, 1)]:
            self.assert_fails(InvalidCode, {"value": value}, workspace.run, value)
        self.assertEqual(before, whole(workspace))
        workspace.raise_need("font", (1, 1))
        self.assertEqual((FONT_PATH, 8), workspace.run(("call", FONT, "add", (NEW,))))
        self.assertEqual(((), 1), fonts().run(MAKE))

    def test_why(self):
        workspace = paged()
        for path, version in [(FONT_PATH, (1, 1)), (PAGE_PATH, (1, 1)), ((PAGE, FONT), (1, 1))]:
            rows = workspace.why(path)
            self.assertEqual(("atleast", path, version), rows[-1][0])
            self.assertIs(True, is_derivation(workspace.project(), rows))
        self.assertEqual(workspace.why(FONT_PATH), workspace.why(path=FONT_PATH))

    def test_why_same(self):
        workspace = paged()
        for path in [FONT_PATH, (PAGE, FONT)]:
            for other in [FONT_PATH, (PAGE, FONT)]:
                rows = workspace.why_same(path, other)
                self.assertEqual(("same", path, other), rows[-1][0])
                self.assertIs(True, is_derivation(workspace.project(), rows))
        self.assertEqual(("same", PAGE_PATH, PAGE_PATH), workspace.why_same(path=PAGE_PATH, other=PAGE_PATH)[-1][0])

    def test_why_by_a_lock(self):
        workspace = paged()
        workspace.lock()
        workspace.drop_need(PAGE)
        rows = workspace.why(FONT_PATH)
        self.assertIn("lock", [rule for _, rule, _ in rows])
        self.assertIs(True, is_derivation(workspace.project(), rows))

    def test_unknown_paths(self):
        workspace = paged()
        for value in odd_values() + [(), (FONT, FONT), (PAGE, PAGE), (("font", 2),), [FONT], ("font", 1)]:
            self.assert_kept(workspace, UnknownPath, {"value": value}, workspace.why, value)
            self.assert_kept(workspace, UnknownPath, {"value": value}, workspace.why_same, value, None)
            self.assert_kept(workspace, UnknownPath, {"value": value}, workspace.why_same, FONT_PATH, value)
        self.assert_kept(fonts(), UnknownPath, {"value": FONT_PATH}, fonts().why, FONT_PATH)
        for path, other in [(FONT_PATH, PAGE_PATH), (PAGE_PATH, (PAGE, FONT)), ((PAGE, FONT), PAGE_PATH)]:
            self.assert_kept(workspace, NotCopies, {"path": path, "other": other}, workspace.why_same, path, other)

    def test_drawn_workspaces(self):
        chance = random.Random(81)
        some = 0
        for _ in range(60):
            workspace = drawn_workspace(chance)
            project, resolution = workspace.project(), workspace.resolution
            self.assertEqual(resolve(project), resolution)
            paths = list(resolution.paths())[1:]
            for path in chance.sample(paths, min(len(paths), 6)):
                rows = workspace.why(path)
                self.assertEqual(("atleast", path, resolution.release(path)[1]), rows[-1][0])
                self.assertIs(True, is_derivation(project, rows))
                other = chance.choice([each for each in paths if resolution.are_copies(path, each)])
                rows = workspace.why_same(path, other)
                self.assertEqual(("same", path, other), rows[-1][0])
                self.assertIs(True, is_derivation(project, rows))
                some += 1
        self.assertGreater(some, 100)


class Pair(tuple):
    """A kind of tuple that is told from others by its class alone."""


class CopyTest(WorkspaceCase):
    def test_no_tuples_of_another_kind_are_kept(self):
        workspace = fonts()
        workspace.publish("font", Pair((2, 0)))
        workspace.add_need("font", Pair((1, 0)))
        workspace.raise_need("font", Pair((1, 1)))
        workspace.drop_need(Pair(FONT))
        parts = [edit[1] if edit[0] == "drop" else edit[2] for edit in workspace.edits()]
        self.assertEqual([(2, 0), (1, 0), (1, 1), FONT], parts)
        self.assertEqual([tuple] * 4, [part.__class__ for part in parts])


class EqualityTest(WorkspaceCase):
    def test_equal_workspaces(self):
        self.assertTrue(fonts() == fonts() and not fonts() != fonts())
        # The edits behind them are not compared.
        one = paged()
        other = fonts()
        other.add_need("font", (1, 0))
        other.add_need("page", (1, 0))
        other.raise_need("page", (1, 1))
        other.unlock()
        self.assertEqual([True, 2, 4], [one == other, len(one), len(other)])

    def test_other_workspaces(self):
        workspace = paged()
        others = [fonts(), Workspace(Library()), None, "Workspace", workspace.library(), workspace.project(),
                  workspace.resolution, 2, []]
        for edit in [lambda each: each.declare("lid"), lambda each: each.publish("font", (2, 0)),
                     lambda each: each.drop_need(FONT),
                     lambda each: each.raise_need("font", (1, 1)), lambda each: each.lock(),
                     lambda each: setattr(each, "step_limit", 999)]:
            other = paged()
            edit(other)
            others.append(other)
        others.append(Workspace(Library.over(fonts_library())))
        for other in others:
            self.assertEqual([False, True], [workspace == other, workspace != other])
            self.assertEqual([False, True], [other == workspace, other != workspace])

    def test_clones(self):
        workspace = paged()
        workspace.step_limit = 55
        clone = workspace.clone()
        self.assertEqual([True, whole(workspace)], [workspace == clone, whole(clone)])
        before = whole(workspace)
        clone.undo(2)
        clone.declare("lid")
        clone.step_limit = 3
        self.assertEqual(before, whole(workspace))
        other = workspace.clone()
        before = whole(other)
        workspace.drop_need(PAGE)
        workspace.undo(3)
        workspace.step_limit = 4
        self.assertEqual(before, whole(other))
        self.assertEqual([("gone", FONT_PATH), ("gone", PAGE_PATH)], other.undo(2))

    def test_the_resolution_is_a_linkage(self):
        workspace = paged()
        self.assertIs(Linkage, workspace.resolution.__class__)
        self.assertEqual(workspace.resolution, workspace.resolution)
        self.assertIs(True, workspace.resolution.is_solution)
        with self.assertRaises(AttributeError):
            workspace.resolution = None

    def test_drawn_workspaces_and_their_clones(self):
        chance = random.Random(82)
        for _ in range(40):
            workspace = drawn_workspace(chance)
            clone = workspace.clone()
            self.assertEqual([workspace, whole(workspace)], [clone, whole(clone)])
            self.assertEqual(everything(workspace.library()), everything(workspace.project().registry()))
            while len(workspace):
                self.assertEqual(workspace.undo(), clone.undo())
                self.assertEqual(whole(workspace), whole(clone))


if __name__ == "__main__":
    unittest.main()
