import random
import unittest

from leastlinks.edits import perform, tried
from leastlinks.errors import Clash, InvalidCount, InvalidEdit, InvalidFlag, InvalidFunctions, InvalidName, InvalidNeeds
from leastlinks.errors import LabelTaken, NameTaken, NoNeed, NothingToUndo, NotRising, TooMany, UnknownPackage
from leastlinks.errors import UnknownRelease
from leastlinks.workspaces import Workspace
from tests.coding import clashing_library, crowded_library, drawn_workspace, fonts_library, whole
from tests.support import ErrorCase, NoComparing, odd_values

FONT, PAGE = ("font", 1), ("page", 1)
MAKE = ("make", 1)
RIGHT = [
    ("declare", "lid", False), ("publish", "lid", (0, 0), [], []), ("need", "lid", (0, 0)), ("raise", "font", (1, 1)),
    ("drop", FONT), ("lock",), ("unlock",), ("undo", 1), ("limit", 5),
]
NO_EDITS = [[*RIGHT[at]] for at in range(9)] + [edit + (None,) for edit in RIGHT] + [edit[:-1] for edit in RIGHT]
for edit in RIGHT:
    NO_EDITS += [(edit[0].upper(),) + edit[1:], (edit[0] + " ",) + edit[1:], edit[0]]
NO_EDITS += [("add", "font", (1, 0)), ("run", MAKE), ("add_need", "font", (1, 0)), ("step_limit", 5), ("redo", 1),
             ("clone",), ("packages",), ("", 1), ("undo",), ("limit",), ("declare", "lid"), ("publish", "lid", (0, 0), []),
             ("publish", "lid", (0, 0)), (b"lock",), (("lock",),), (0,), (None,), (True,), (NoComparing(),)]


def fonts():
    """A workspace with one need."""
    workspace = Workspace(fonts_library())
    workspace.add_need("font", (1, 0))
    return workspace


def with_all(workspace):
    """Perform each kind of edit by its method, and return the results."""
    results = [workspace.declare("lid", sole=True), workspace.publish("lid", (0, 0), (), [("f", (), "own", MAKE)]),
               workspace.add_need("lid", (0, 0)),
               workspace.raise_need("font", (1, 1)), workspace.lock(), workspace.drop_need(("lid", 0)), workspace.unlock(),
               workspace.undo(2)]
    workspace.step_limit = 77
    return results + [None]


ALL = [("declare", "lid", True), ("publish", "lid", (0, 0), (), [("f", (), "own", MAKE)]), ("need", "lid", (0, 0)),
       ("raise", "font", (1, 1)),
       ("lock",), ("drop", ("lid", 0)), ("unlock",), ("undo", 2), ("limit", 77)]


class PerformTest(ErrorCase):
    def assert_kept(self, workspace, error, told, *edits):
        """Both functions raise this error and leave the workspace as it was."""
        before = whole(workspace)
        for function in [perform, tried]:
            self.assert_fails(error, told, function, workspace, *edits)
            self.assertEqual(before, whole(workspace))

    def test_each_kind_of_edit(self):
        workspace, other = fonts(), fonts()
        right = with_all(other)
        self.assertEqual(right, perform(workspace, *ALL))
        self.assertEqual(whole(other), whole(workspace))
        self.assertEqual([None, None], right[:2])
        one_by_one = fonts()
        self.assertEqual(right, [result for edit in ALL for result in perform(one_by_one, edit)])
        self.assertEqual(whole(other), whole(one_by_one))

    def test_no_edits(self):
        workspace = fonts()
        before = whole(workspace)
        self.assertEqual([[], []], [perform(workspace), tried(workspace)])
        self.assertEqual(before, whole(workspace))

    def test_tried_returns_the_same_and_changes_nothing(self):
        workspace = fonts()
        workspace.step_limit = 12
        before = whole(workspace)
        for count in range(len(ALL) + 1):
            self.assertEqual(with_all(fonts())[:count], tried(workspace, *ALL[:count]))
            self.assertEqual(before, whole(workspace))
        self.assertEqual(with_all(fonts()), perform(workspace, *ALL))

    def test_the_workspace_stays_the_same_object(self):
        workspace = fonts()
        kept = workspace
        perform(workspace, ("need", "page", (1, 0)), ("limit", 9))
        self.assertEqual([2, 9, "Workspace([('font', (1, 0)), ('page', (1, 0))])"], [len(kept), kept.step_limit, repr(kept)])
        self.assertEqual([("gone", (PAGE,))], kept.undo())
        self.assertEqual(fonts().edits(), kept.edits())

    def test_values_that_are_no_edits(self):
        workspace = fonts()
        for value in NO_EDITS + odd_values():
            self.assert_kept(workspace, InvalidEdit, {"value": value}, value)
            self.assert_kept(workspace, InvalidEdit, {"value": value}, ("need", "page", (1, 0)), ("limit", 3), value)
            self.assert_kept(workspace, InvalidEdit, {"value": value}, value, ("drop", PAGE), None, [])

    def test_the_first_value_that_is_no_edit_before_any_refused_edit(self):
        workspace = fonts()
        self.assert_kept(workspace, InvalidEdit, {"value": ["lock"]}, ("drop", PAGE), ("undo", 9), ["lock"], ("lock", 1))
        self.assert_kept(workspace, InvalidEdit, {"value": ("lock", 1)}, ("limit", 0), ("lock",), ("lock", 1), ["lock"])

    def test_the_parts_are_those_of_the_methods(self):
        workspace = fonts()
        for edit, error, told in [
            (("declare", "Lid", None), InvalidName, {"value": "Lid"}), (("declare", "lid", 0), InvalidFlag, {"value": 0}),
            (("declare", "font", True), NameTaken, {"value": "font"}),
            (("publish", "lid", (0, 0), [], []), UnknownPackage, {"value": "lid"}),
            (("publish", "font", (1, 2), None, []), InvalidNeeds, {"position": None}),
            (("publish", "font", (1, 2), [], None), InvalidFunctions, {"problem": "functions", "position": None}),
            (("need", "font", (1, 9)), UnknownRelease, {"package": "font", "version": (1, 9)}),
            (("need", "font", (1, 1)), LabelTaken, {"label": FONT}),
            (("raise", "page", (1, 0)), NoNeed, {"label": PAGE}),
            (("raise", "font", (1, 0)), NotRising, {"package": "font", "version": (1, 0)}),
            (("drop", PAGE), NoNeed, {"label": PAGE}), (("drop", None), NoNeed, {"label": None}),
            (("undo", 0), InvalidCount, {"value": 0}),
            (("undo", True), InvalidCount, {"value": True}), (("undo", 2), NothingToUndo, {}),
            (("limit", 0), InvalidCount, {"value": 0}),
            (("limit", True), InvalidCount, {"value": True}), (("limit", None), InvalidCount, {"value": None}),
            (("limit", 10001), InvalidCount, {"value": 10001}),
        ]:
            self.assert_kept(workspace, error, told, edit)

    def test_a_refused_edit_in_the_middle(self):
        workspace = fonts()
        workspace.lock()
        workspace.step_limit = 50
        before = [("limit", 3), ("undo", 2), ("need", "page", (1, 1)), ("declare", "lid", False), ("unlock",)]
        for count in range(len(before) + 1):
            for behind in [(), (("limit", 9), ("lock",)), (("drop", ("none", 0)),)]:
                self.assert_kept(workspace, NoNeed, {"label": ("lid", 0)}, *before[:count], ("drop", ("lid", 0)), *behind)
        crowd = Workspace(crowded_library())
        self.assert_kept(crowd, TooMany, {"kind": "copies", "limit": 400}, ("need", "x", (1, 0)), ("need", "y", (1, 0)))
        self.assert_kept(Workspace(clashing_library()), Clash, {"package": "log"}, ("need", "ear", (1, 0)),
                         ("need", "eye", (1, 0)))

    def test_undo_within_the_edits_and_of_more(self):
        workspace = fonts()
        told = perform(workspace, ("need", "page", (1, 0)), ("undo", 1), ("need", "page", (1, 1)), ("limit", 8), ("undo", 2))
        self.assertEqual([("gone", (FONT,)), ("gone", (PAGE,))], told[-1])
        self.assertEqual([0, 8, []], [len(workspace), workspace.step_limit, workspace.project().needs()])
        self.assert_kept(workspace, NothingToUndo, {}, ("lock",), ("undo", 2))
        self.assertEqual([0, []], perform(workspace, ("lock",), ("undo", 1)))

    def test_what_is_passed_and_returned(self):
        workspace = fonts()
        needs, functions = [("font", (1, 0), True)], [("f", (), "own", MAKE)]
        edit = ("publish", "page", (2, 0), needs, functions)
        results = perform(workspace, edit, ("need", "page", (2, 0)))
        before = whole(workspace)
        needs.clear()
        functions.clear()
        results[1].clear()
        results.clear()
        self.assertEqual(before, whole(workspace))
        self.assertEqual(("publish", "page", (2, 0), [("font", (1, 0), True)], [("f", (), "own", MAKE)]), workspace.edits()[1])

    def test_the_edits_of_one_workspace_performed_on_another(self):
        chance = random.Random(91)
        for _ in range(60):
            workspace = drawn_workspace(chance)
            other = Workspace(workspace.clone().first_library())
            other.step_limit = workspace.step_limit
            results = tried(other, *workspace.edits())
            self.assertEqual(0, len(other))
            self.assertEqual(results, perform(other, *workspace.edits()))
            self.assertEqual(whole(workspace), whole(other))

    def test_the_workspace_by_its_name(self):
        workspace = fonts()
        self.assertEqual([[], []], [perform(workspace=workspace), tried(workspace=workspace)])


if __name__ == "__main__":
    unittest.main()
