import random
import unittest

from leastlinks.code_texts import library_text
from leastlinks.edits import perform, tried
from leastlinks.errors import InvalidText, LabelTaken
from leastlinks.histories import load, save
from leastlinks.library import Library
from leastlinks.workspaces import Workspace
from tests.coding import clashing_library, crowded_library, drawn_edit, drawn_workspace, fonts_library, whole
from tests.reading import changed_characters, changed_lines, changed_words, history_words, library_words, workspace_meant
from tests.support import ErrorCase, odd_values, without_kind

FONT, PAGE = ("font", 1), ("page", 1)
MAKE = ("make", 1)
FONTS = library_words(fonts_library())


def fonts():
    """A new workspace over fonts and pages."""
    return Workspace(fonts_library())


def edited():
    """A workspace after edits of each kind."""
    workspace = fonts()
    workspace.declare("lid", sole=True)
    workspace.publish("lid", (0, 3), [("page", (1, 1), False), ("font", (1, 0), True)],
                      [("f", ("own",), "own", ("param", 0)), ("g", (), FONT, ("call", FONT, "new", ()))])
    workspace.add_need("page", (1, 0))
    workspace.add_need("lid", (0, 3))
    workspace.lock()
    workspace.raise_need("page", (1, 1))
    workspace.declare("cap")
    workspace.drop_need(("lid", 0))
    workspace.unlock()
    return workspace


EDITED = FONTS + """declare lid sole
publish lid 0.3 font/1.0+ page/1.1 | f own -> own (param 0) | g -> font/1 (call font/1 new)
need page/1.0
need lid/0.3
lock
raise page/1.1
declare cap
drop lid/0
unlock
"""


class SaveTest(ErrorCase):
    def test_each_kind_of_edit(self):
        self.assertEqual([EDITED, EDITED], [save(edited()), save(workspace=edited())])
        self.assertEqual(FONTS, save(fonts()))
        self.assertEqual("", save(Workspace(Library())))

    def test_the_history_behind_each_edit(self):
        workspace = edited()
        lines = EDITED.split("\n")[:-1]
        while len(workspace):
            workspace.undo()
            lines.pop()
            self.assertEqual("".join([line + "\n" for line in lines]), save(workspace))
        self.assertEqual(FONTS, save(workspace))

    def test_edits_that_changed_nothing_count(self):
        workspace = fonts()
        workspace.lock()
        workspace.unlock()
        workspace.lock()
        self.assertEqual(FONTS + "lock\nunlock\nlock\n", save(workspace))

    def test_edits_that_were_refused_or_tried_do_not_count(self):
        workspace = fonts()
        workspace.add_need("font", (1, 0))
        self.assert_fails(LabelTaken, {"label": FONT}, workspace.add_need, "font", (1, 1))
        tried(workspace, ("lock",), ("drop", FONT))
        self.assert_fails(LabelTaken, {"label": FONT}, perform, workspace, ("lock",), ("need", "font", (1, 0)))
        self.assertEqual(FONTS + "need font/1.0\n", save(workspace))
        perform(workspace, ("lock",), ("undo", 1), ("limit", 4), ("unlock",))
        self.assertEqual(FONTS + "need font/1.0\nunlock\n", save(workspace))

    def test_the_library_is_that_with_which_it_was_made(self):
        workspace = fonts()
        workspace.publish("font", (1, 2), [], workspace.library().functions("font", (1, 1)))
        line = "publish font 1.2 | new -> own (make 7) | add own -> own (plus (param 0) 1)\n"
        self.assertEqual([FONTS + line, FONTS + line], [save(workspace), save(workspace.clone())])
        self.assertNotEqual(FONTS, library_text(workspace.library()))
        workspace.undo()
        self.assertEqual(FONTS, save(workspace))

    def test_the_step_limit_does_not_belong_to_it(self):
        workspace = edited()
        workspace.step_limit = 3
        self.assertEqual(EDITED, save(workspace))
        loaded = load(save(workspace))
        self.assertEqual([1000, False], [loaded.step_limit, loaded == workspace])
        loaded.step_limit = 3
        self.assertEqual(whole(workspace), whole(loaded))

    def test_drawn_workspaces(self):
        chance = random.Random(111)
        for _ in range(80):
            workspace = drawn_workspace(chance)
            self.assertEqual(history_words(workspace.first_library(), workspace.edits()), save(workspace))


class LoadTest(ErrorCase):
    def assert_loaded(self, text):
        """The history is loaded as what it says, or refused at the line that is due."""
        right = workspace_meant(text)
        if isinstance(right, int):
            self.assert_fails(InvalidText, {"line": right}, load, text)
        else:
            loaded = load(text)
            self.assertEqual([whole(right), text], [whole(loaded), save(loaded)])
        return not isinstance(right, int)

    def assert_refused_line(self, lines, line):
        """A history with these lines is wrong at this line behind them, whatever follows."""
        text = FONTS + "".join([each + "\n" for each in lines])
        self.assertEqual(text, save(load(text)))
        number = len(text.split("\n"))
        for more in ["\n", "\nlock\n", "\n\n"] + [""] * (line != ""):
            self.assert_fails(InvalidText, {"line": number}, load, text + line + more)

    def test_an_equal_workspace(self):
        workspace, loaded = edited(), load(text=EDITED)
        self.assertIs(Workspace, loaded.__class__)
        self.assertEqual([workspace, whole(workspace)], [loaded, whole(loaded)])
        self.assertEqual(workspace.resolution, loaded.resolution)

    def test_it_goes_on_and_back_like_the_first_one_and_by_itself(self):
        workspace = edited()
        loaded = load(save(workspace))
        before = whole(workspace)
        loaded.publish("cap", (0, 0))
        self.assertEqual(before, whole(workspace))
        self.assertEqual(EDITED + "publish cap 0.0\n", save(loaded))
        loaded.undo()
        for count in [1, 3, 2, 3]:
            self.assertEqual(workspace.undo(count), loaded.undo(count))
            self.assertEqual(whole(workspace), whole(loaded))
        loaded.declare("own")
        self.assertEqual(FONTS, save(workspace))

    def test_empty_histories_and_libraries_alone(self):
        self.assertEqual(Workspace(Library()), load(""))
        self.assertEqual([fonts(), 0], [load(FONTS), len(load(FONTS))])
        self.assertEqual("declare a\npublish a 0.0\nneed a/0.0\n", save(load("declare a\npublish a 0.0\nneed a/0.0\n")))

    def test_drawn_workspaces(self):
        chance = random.Random(112)
        for _ in range(80):
            workspace = drawn_workspace(chance)
            loaded = load(save(workspace))
            loaded.step_limit = workspace.step_limit
            self.assertEqual([workspace, whole(workspace)], [loaded, whole(loaded)])
            for _ in range(5):
                seed = chance.random()
                self.assertEqual(outcome(seed, workspace), outcome(seed, loaded))
                self.assertEqual(whole(workspace), whole(loaded))

    def test_values_that_are_no_strings(self):
        for value in without_kind(odd_values(), str) + [EDITED.encode(), EDITED.split("\n"), edited()]:
            self.assert_fails(InvalidText, {"line": 0}, load, value)

    def test_edits_that_would_be_refused(self):
        lines = ["need font/1.0", "need page/1.0", "lock"]
        for line in ["need font/1.0", "need font/1.1", "need font/2.0", "need lid/0.0", "raise font/1.0", "raise lid/0.0",
                     "raise font/2.0", "drop lid/0", "drop font/0",
                     "declare font", "declare page sole", "publish lid 0.0", "publish font 1.1", "publish font 1.2",
                     "publish font 1.2 | new -> own (make 1)",
                     "publish font 2.0 page/1.0", "publish page 1.2 | pick -> own (make 1)", "publish page 2.0 font/9.0",
                     "publish page 2.0 | f -> own (param 0)",
                     "publish page 2.0 | f -> font/1 (call font/1 new)",
                     "publish font 0.0 | f -> own (make 1) | f -> own (make 1)",
                     "publish font 0.0" + "".join([f" | {name} -> own (make 1)" for name in "abcde"])]:
            self.assert_refused_line(lines, line)

    def test_edits_that_resolving_refuses(self):
        text = library_words(clashing_library()) + "need ear/1.0\n"
        for line in ["need eye/1.0", "raise ear/1.1"]:
            self.assert_fails(InvalidText, {"line": len(text.split("\n"))}, load, text + line + "\n")
        crowd = library_words(crowded_library())
        for lines in [["need x/1.0", "need y/1.0"], ["need h/1.0", "need x/1.0", "need y/1.0", "drop h/1"],
                      ["need z/1.1", "lock", "drop z/1", "need z/1.0", "unlock"]]:
            text = crowd + "".join([line + "\n" for line in lines[:-1]])
            self.assertEqual(text, save(load(text)))
            self.assert_fails(InvalidText, {"line": len(text.split("\n"))}, load, text + lines[-1] + "\n")

    def test_needs_that_are_not_as_listed(self):
        lines = ["publish font 2.0"]
        for needs in ["font/2.0 font/1.0", "font/1.0 font/1.1", "font/1.0 font/1.0", "font/1.1 font/2.0 font/1.0",
                      "font/2.0+ font/1.0"]:
            self.assert_refused_line(lines, f"publish page 2.0 {needs}")
        text = FONTS + "publish font 2.0\npublish page 2.0 font/1.0 font/2.0+\n"
        self.assertEqual(text, save(load(text)))

    def test_lines_of_the_library_behind_the_first_edit(self):
        for first in ["lock", "declare lid", "need font/1.0"]:
            for line in ["package cap", "package cap sole", "release page 2.0", "release font 2.0", "package lid"]:
                self.assert_refused_line([first], line)

    def test_lines_that_are_no_edits(self):
        for line in ["undo", "undo 1", "limit 5", "lock ", " lock", "lock 1", "unlock ", "unlock all", "Lock", "locks",
                     "need", "need ", "need font", "need font/1",
                     "need font/1.0 ", "need font/1.0+", "need font 1.0", "need  font/1.0", "need font/01.0",
                     "need font/1.0 page/1.0", "raise", "raise font/1",
                     "drop", "drop font", "drop font/1.0", "drop font/1 ", "drop font/01", "declare", "declare ",
                     "declare Lid", "declare lid ", "declare lid Sole",
                     "declare lid sole sole", "declare  lid", "declare lid cap", "publish", "publish font",
                     "publish font 2", "publish font 2.0 ", "publish font 2.0 |",
                     "publish font 2.0 | f", "publish font 2.0 f -> own (make 1)", "publish font 2.0  | f -> own (make 1)",
                     "need font/1.0 | f -> own (make 1)",
                     "packages", "copies", "run (make 1)", "", "font", "declare lid | f -> own (make 1)"]:
            self.assert_refused_line([], line)
            self.assert_refused_line(["lock"], line)

    def test_a_last_line_without_a_line_feed(self):
        lines = EDITED.split("\n")[:-1]
        for count in range(1, len(lines) + 1):
            text = "".join([line + "\n" for line in lines[:count]])
            self.assertEqual(text, save(load(text)))
            self.assert_fails(InvalidText, {"line": count}, load, text[:-1])

    def test_histories_with_one_thing_changed(self):
        chance = random.Random(113)
        texts = changed_lines(EDITED) + changed_words(EDITED) + changed_characters(chance, EDITED, 800)
        self.assertGreater(sum([self.assert_loaded(text) for text in texts]), 50)

    def test_drawn_histories_with_one_thing_changed(self):
        chance = random.Random(114)
        for _ in range(12):
            text = save(drawn_workspace(chance))
            lines, words = changed_lines(text), changed_words(text)
            for changed in chance.sample(lines, 15) + chance.sample(words, 25) + changed_characters(chance, text, 25):
                self.assert_loaded(changed)


def outcome(seed, workspace):
    """What a drawn edit raises, if it raises something."""
    try:
        drawn_edit(random.Random(seed), workspace)
    except (LookupError, RuntimeError, ArithmeticError) as error:
        return (error.__class__, vars(error))
    return None


if __name__ == "__main__":
    unittest.main()
