import random
import unittest

from leastlinks.comparing import joined
from leastlinks.console import Console
from leastlinks.edits import perform
from leastlinks.errors import Clash, InvalidCode, InvalidCommand, InvalidCount, InvalidFunctions, InvalidNeeds, LabelTaken
from leastlinks.errors import LostFunction, NameTaken, NoNeed, NotEarlier, NotGrowing, NothingToUndo, NotRising, TooMany
from leastlinks.errors import TooManySteps, UnknownPackage, UnknownPath, UnknownRelease
from leastlinks.histories import save
from leastlinks.library import Library
from leastlinks.workspaces import Workspace
from tests.coding import clashing_library, drawn_library, drawn_main_code, drawn_workspace, fonts_library, whole, with_counters
from tests.reading import edit_words, expression_words, label_words
from tests.support import ErrorCase, everything, odd_values, without_kind
from tests.test_code import nested, wide
from tests.test_code_texts import NO_EXPRESSION_TEXTS

FONT, PAGE = ("font", 1), ("page", 1)
MAKE = ("make", 1)


def path_words(path):
    return ">".join([label_words(label) for label in path]) or "-"


def version_words(version):
    return f"{version[0]}.{version[1]}"


def in_one(texts):
    return " ".join(texts) or "-"


def change_words(change):
    """The text of a change: its word, and its parts as their texts."""
    texts = [change[0]]
    for part in change[1:]:
        texts.append(version_words(part) if part and isinstance(part[0], int) else path_words(part))
    return ":".join(texts)


def result_words(result):
    """The text of the result of an edit."""
    if isinstance(result, list):
        return in_one([change_words(change) for change in result])
    return "ok" if result is None else str(result)


def paged():
    """A console whose main program needs page 1.0 and font 1.0."""
    console = Console(fonts_library())
    console.run(["need page/1.0", "need font/1.0"])
    return console


class ConsoleCase(ErrorCase):
    def assert_answers(self, console, *rows):
        for command, answer in rows:
            self.assertEqual(answer, console.execute(command), command)

    def assert_kept(self, console, error, told, command, most=3):
        """The command raises this error, alone and behind others, the last of which edit, and leaves all but the log."""
        before, log = whole(console.workspace()), console.log()
        self.assert_fails(error, told, console.execute, command)
        self.assertEqual([before, log], [whole(console.workspace()), console.log()])
        for ahead in [[], ["packages"], ["limit 9", "declare zz", "lock", "packages"]][:most]:
            self.assert_fails(error, told, console.run, ahead + [command, "lock", "no command"])
            log.append((len(ahead) + 3, len(ahead)))
            self.assertEqual([before, log], [whole(console.workspace()), console.log()])


class EditTest(ConsoleCase):
    def test_declare_publish_and_limit(self):
        console = Console(fonts_library())
        self.assert_answers(
            console, ("declare lid", "ok"), ("declare sole sole", "ok"), ("declare cap sole", "ok"),
            ("publish lid 0.3", "ok"), ("limit 77", "ok"),
            ("publish lid 1.0 page/1.1 font/1.0+ | f own font/1 -> own (plus (param 0) -1) | g -> font/1 (call font/1 new)",
             "ok"), ("limit 1", "ok"), ("limit 10000", "ok"),
        )
        workspace = console.workspace()
        library = workspace.library()
        self.assertEqual([["font", "page", "lid", "sole", "cap"], [False, True, True]],
                         [library.packages(), [library.is_sole(each) for each in ["lid", "sole", "cap"]]])
        self.assertEqual([("font", (1, 0), True), ("page", (1, 1), False)], library.needs("lid", (1, 0)))
        self.assertEqual([("f", ("own", FONT), "own", ("plus", ("param", 0), -1)),
                          ("g", (), FONT, ("call", FONT, "new", ()))], library.functions("lid", (1, 0)))
        self.assertEqual([10000, 5], [workspace.step_limit, len(workspace)])

    def test_the_needs_of_publish_in_any_sequence(self):
        texts = []
        for needs in ["font/0.0 font/1.0+ page/1.0", "page/1.0 font/1.0+ font/0.0", "font/1.0+ page/1.0 font/0.0"]:
            console = Console(fonts_library())
            console.run(["publish font 0.0", "declare lid", f"publish lid 0.0 {needs}"])
            texts.append(save(console.workspace()))
        self.assertEqual([texts[0]] * 3, texts)

    def test_needs_and_locks(self):
        console = Console(fonts_library())
        self.assert_answers(
            console, ("need page/1.0", "new:page/1 new:page/1>font/1"), ("need font/1.0", "new:font/1"),
            ("raise font/1.1", "release:font/1:1.0:1.1"),
            ("lock", "2"), ("drop font/1", "gone:font/1"), ("lock", "2"), ("unlock", "-"),
            ("raise page/1.1", "release:page/1:1.0:1.1 release:page/1>font/1:1.0:1.1"), ("unlock", "-"), ("undo", "-"),
            ("undo 2", "release:page/1:1.1:1.0 release:page/1>font/1:1.1:1.0"), ("undo 1", "-"),
            ("drop page/1", "gone:page/1 gone:page/1>font/1"),
            ("lock", "0"), ("undo 7", "-"),
        )
        self.assertEqual(Workspace(fonts_library()), console.workspace())

    def test_changes_of_all_kinds(self):
        library = Library()
        for package in "dxyh":
            library.declare(package)
        library.publish("d", (0, 0))
        for package in "xy":
            library.publish(package, (0, 0), [("d", (0, 0), False)])
            library.publish(package, (0, 1), [("d", (0, 0), True)])
        library.publish("h", (0, 0), [("x", (0, 1), True), ("y", (0, 1), True)])
        console = Console(library)
        self.assert_answers(
            console, ("need y/0.0", "new:y/0 new:y/0>d/0"), ("need x/0.0", "new:x/0 new:x/0>d/0"),
            ("need h/0.0",
             "new:h/0 new:h/0>x/0 new:h/0>x/0>d/0 new:h/0>y/0 release:x/0:0.0:0.1 release:y/0:0.0:0.1 joined:x/0>d/0:y/0>d/0"),
            ("drop h/0", "gone:h/0 gone:h/0>x/0 gone:h/0>x/0>d/0 gone:h/0>y/0 parted:x/0>d/0:y/0>d/0"),
        )

    def test_undo_with_and_without_a_count(self):
        console = paged()
        self.assert_answers(console, ("undo", "gone:font/1"), ("undo 1", "gone:page/1 gone:page/1>font/1"))
        self.assert_kept(console, NothingToUndo, {}, "undo", most=2)
        self.assert_kept(console, NothingToUndo, {}, "undo 100000000000000000000")
        self.assert_kept(paged(), InvalidCount, {"value": 0}, "undo 0")
        self.assert_kept(paged(), NothingToUndo, {}, "undo 3", most=2)

    def test_errors_of_edits(self):
        console = paged()
        for command, error, told in [
            ("declare font", NameTaken, {"value": "font"}), ("declare page sole", NameTaken, {"value": "page"}),
            ("publish lid 0.0", UnknownPackage, {"value": "lid"}),
            ("publish page 2.0 font/1.0 font/1.1", InvalidNeeds, {"position": 1}),
            ("publish page 2.0" + "".join([f" font/{at}.0" for at in range(7)]), TooMany, {"kind": "needs", "limit": 6}),
            ("publish font 2.0 page/1.0", NotEarlier, {"user": "font", "used": "page"}),
            ("publish font 2.0 lid/1.0", NotEarlier, {"user": "font", "used": "lid"}),
            ("publish page 2.0 font/9.0", UnknownRelease, {"package": "font", "version": (9, 0)}),
            ("publish font 1.1", NotRising, {"package": "font", "version": (1, 1)}),
            ("publish page 1.2", NotGrowing, {"label": FONT}), ("publish font 1.2", LostFunction, {"name": "new"}),
            ("publish font 0.0" + "".join([f" | {name} -> own (make 1)" for name in "abcde"]), TooMany,
             {"kind": "functions", "limit": 4}),
            ("publish font 0.0 | f -> own (make 1) | f -> own (make 1)", InvalidFunctions, {"problem": "name", "position": 1}),
            ("publish font 0.0 | f page/1 -> own (make 1)", InvalidFunctions, {"problem": "kinds", "position": 0}),
            ("publish font 0.0 | f -> own (param 0)", InvalidFunctions, {"problem": "body", "position": 0}),
            ("need font/1.1", LabelTaken, {"label": FONT}),
            ("need lid/0.0", UnknownRelease, {"package": "lid", "version": (0, 0)}),
            ("raise font/1.0", NotRising, {"package": "font", "version": (1, 0)}),
            ("raise font/1.9", UnknownRelease, {"package": "font", "version": (1, 9)}),
            ("drop lid/0", NoNeed, {"label": ("lid", 0)}), ("limit 0", InvalidCount, {"value": 0}),
            ("limit 10001", InvalidCount, {"value": 10001}),
            ("limit 100000000000000000000", InvalidCount, {"value": 10 ** 20}),
        ]:
            self.assert_kept(console, error, told, command)
        console.execute("undo 2")
        self.assert_kept(console, NoNeed, {"label": FONT}, "raise font/1.1")
        ears = Console(clashing_library())
        ears.execute("need ear/1.0")
        self.assert_kept(ears, Clash, {"package": "log"}, "need eye/1.0")
        self.assert_kept(ears, Clash, {"package": "log"}, "raise ear/1.1")

    def test_drawn_edits_as_commands(self):
        chance = random.Random(121)
        for _ in range(50):
            workspace = drawn_workspace(chance)
            console, other = Console(workspace.first_library()), Workspace(workspace.first_library())
            for edit in workspace.edits():
                result = perform(other, edit)[0]
                self.assertEqual(result_words(result), console.execute(edit_words(edit)))
            other.step_limit = 1000
            self.assertEqual([other, whole(other)], [console.workspace(), whole(console.workspace())])


class QueryTest(ConsoleCase):
    def test_each_query(self):
        console = paged()
        self.assert_answers(
            console, ("packages", "font page"), ("needs", "font/1.0 page/1.0"), ("locks", "-"),
            ("copies", "- font/1 page/1"), ("versions font", "1.0 1.1"),
            ("release -", "-"), ("release font/1", "font/1.0"), ("release page/1>font/1", "font/1.0"),
            ("links -", "font/1:font/1 page/1:page/1"),
            ("links page/1", "font/1:font/1"), ("links font/1", "-"), ("seen -", "font/1:font/1 page/1:page/1"),
            ("seen page/1", "font/1:font/1"),
            ("seen font/1", "-"), ("same font/1 page/1>font/1", "yes"), ("same font/1 page/1", "no"), ("same - -", "yes"),
            ("same - font/1", "no"),
            ("joined", "- font/1 page/1"), ("run (call page/1 pick)", "font/1:7"), ("run (make -3)", "-:-3"), ("lock", "2"),
            ("locks", "font/1:1.0 page/1:1.0"), ("drop font/1", "gone:font/1"), ("locks", "font/1:1.0 page/1:1.0"),
            ("copies", "- page/1 page/1>font/1"),
        )

    def test_empty_answers(self):
        console = Console(Library())
        self.assert_answers(console, ("packages", "-"), ("needs", "-"), ("locks", "-"), ("copies", "-"), ("release -", "-"),
                            ("links -", "-"), ("seen -", "-"),
                            ("same - -", "yes"), ("joined", "-"), ("run (make 0)", "-:0"), ("declare lid", "ok"),
                            ("versions lid", "-"), ("packages", "lid"))

    def test_the_joined_copies(self):
        library = fonts_library()
        library.publish("page", (2, 0), [("font", (1, 0), False)])
        library.publish("page", (3, 0), [("font", (1, 0), False)])
        console = Console(library)
        console.run(["need page/2.0", "need page/3.0"])
        self.assert_answers(console, ("copies", "- page/2 page/2>font/1 page/3 page/3>font/1"),
                            ("joined", "- page/2 page/2>font/1 page/3"))

    def test_a_label_under_which_one_is_seen_by_many_chains(self):
        library = fonts_library()
        library.declare("box")
        library.publish("box", (0, 0), [("page", (1, 0), True), ("font", (1, 0), True)])
        console = Console(library)
        console.execute("need box/0.0")
        self.assert_answers(console, ("seen -", "box/0:box/0 font/1:box/0>font/1 page/1:box/0>page/1"),
                            ("links box/0", "font/1:box/0>font/1 page/1:box/0>page/1"))

    def test_errors_of_queries(self):
        console = paged()
        console.execute("limit 1")
        far, none = (PAGE, PAGE), (("lid", 0),)
        for command, error, told in [
            ("versions lid", UnknownPackage, {"value": "lid"}), ("release lid/0", UnknownPath, {"value": none}),
            ("links page/1>page/1", UnknownPath, {"value": far}),
            ("seen lid/0", UnknownPath, {"value": none}), ("same lid/0 page/1>page/1", UnknownPath, {"value": none}),
            ("same - page/1>page/1", UnknownPath, {"value": far}),
            ("run (param 0)", InvalidCode, {"value": ("param", 0)}),
            ("run (call - f)", InvalidCode, {"value": ("call", None, "f", ())}),
            ("run (call page/1 pick)", TooManySteps, {"limit": 1}),
            ("run (call lid/0 f)", InvalidCode, {"value": ("call", ("lid", 0), "f", ())}),
        ]:
            self.assert_kept(console, error, told, command, most=2)

    def test_the_step_limit(self):
        console = Console(with_counters(Library()))
        console.execute("need n/0.0")
        most = "(call n/0 most)"
        self.assert_answers(console, (f"run (do {most} (make 1))", "-:1"), ("limit 996", "ok"))
        self.assert_kept(console, TooManySteps, {"limit": 996}, f"run {most}", most=2)
        self.assert_answers(console, ("limit 997", "ok"), (f"run {most}", "n/0:1"), ("undo", "gone:n/0"))
        self.assertEqual(997, console.workspace().step_limit)

    def test_queries_change_nothing(self):
        console = paged()
        before = whole(console.workspace())
        for command in ["packages", "needs", "locks", "copies", "versions font", "release -", "links -", "seen -",
                        "same - -", "joined", "run (call page/1 pick)"]:
            self.assertEqual(console.execute(command), console.execute(command=command))
        self.assertEqual([before, 2], [whole(console.workspace()), len(console.workspace())])

    def test_drawn_workspaces(self):
        chance = random.Random(122)
        for _ in range(60):
            workspace = drawn_workspace(chance)
            console = Console(workspace.first_library())
            console.run([edit_words(edit) for edit in workspace.edits()])
            project, library, linkage = workspace.project(), workspace.library(), workspace.resolution
            rows = [
                ("packages", in_one(library.packages())),
                ("needs", in_one([f"{package}/{version_words(version)}" for package, version in project.needs()])),
                ("locks", in_one([f"{path_words(path)}:{version_words(version)}" for path, version in project.locks()])),
                ("copies", in_one([path_words(path) for path in linkage.copies()])),
                ("joined", in_one([path_words(path) for path in joined(linkage).copies()])),
            ]
            for package in library.packages():
                rows.append((f"versions {package}", in_one([version_words(version) for version in library.versions(package)])))
            for path in linkage.paths():
                text, release = path_words(path), linkage.release(path)
                rows.append((f"release {text}", "-" if release is None else f"{release[0]}/{version_words(release[1])}"))
                links = list(linkage.links(path).items())
                seen = [(label, to) for label, found in linkage.seen(path).items() for to in found]
                for word, pairs in [("links", links), ("seen", seen)]:
                    answer = in_one([f"{label_words(label)}:{path_words(to)}" for label, to in pairs])
                    rows.append((f"{word} {text}", answer))
                other = chance.choice(linkage.copies())
                rows.append((f"same {text} {path_words(other)}", "yes" if linkage.are_copies(path, other) else "no"))
            workspace.step_limit = 1000
            for _ in range(3):
                code = drawn_main_code(chance, project)
                try:
                    path, number = workspace.run(code)
                    rows.append((f"run {expression_words(code)}", f"{path_words(path)}:{number}"))
                except TooManySteps:
                    continue
            self.assert_answers(console, *rows)


NO_COMMANDS = """|packages |packages font| packages|package|packages-|Packages|needs all|needs |locks -|copies -
|joined -|version font|versions|versions |versions Font|versions font page|versions font/1|versions -|release
|release |release font|release font/1.0|release font/01|release font/1 |release  font/1|release font/1>
|release >font/1|release font/1 > page/1|release font/1 page/1|release font/-1|release ->font/1|links|links font
|seen|seen font|seen - -|same|same -|same - - -|same -  -|same font page|same - font|run|run |run make 1
|run(make 1)|run  (make 1)|run (make 1) |run (make 1) (make 1)|run (make 01)|run - (make 1)|runs (make 1)|undo 
|undo  1|undo 01|undo +1|undo -1|undo one|undo 1 1|undo 1.0|Undo|limit|limit |limit -1|limit +5|limit 05|limit 5 
|limit 5 5|limit  5|limit 0x5|limit 1_0|declare|declare |declare Lid|declare lid1|declare abcdefghi
|declare lid  sole|declare lid Sole|declare lid sole sole|declare lid not|declare -|publish|publish lid
|publish lid 1|publish Lid 1.0|publish lid 1.0 |publish lid 1.0 font|publish lid 1.0 font/1
|publish lid 1.0 font/01.0|publish lid 1.0 font/1.0++|publish lid 1.0 +font/1.0|publish lid 1.0 sole
|publish lid 1.0 |publish lid 1.0  font/1.0|publish 1.0 lid|need|need |need font|need font/1|need font/1.0+
|need font/1.0 |need font/1.00|need font 1.0|need /1.0|need font/1.0 page/1.0|need Font/1.0|raise|raise font
|raise font/1|raise font/1.0.0|raise font/1.0+|drop|drop font|drop font/1.0|drop font/01|drop -|drop font/1 page/1
|drop (font 1)|lock 1|lock |locked|unlock all|unlock |redo|help|exit|save|load|clone|resolution|why font/1|;
|packages;needs|-""".replace("\n", "").split("|")


class CommandTest(ConsoleCase):
    def test_values_that_are_no_commands(self):
        console = paged()
        wrong = NO_COMMANDS + without_kind(odd_values(), str) + ["abcdefghi", ["packages"], ("packages",), b"packages"]
        wrong += ["packages\n", "\npackages", "lock\nlock", "undo\n"]
        for value in wrong:
            before = whole(console.workspace())
            self.assert_fails(InvalidCommand, {"value": value}, console.execute, value)
            self.assert_fails(InvalidCommand, {"value": value}, console.run, ["lock", value, None])
            self.assertEqual([before, (3, 1)], [whole(console.workspace()), console.log()[-1]])

    def test_paths_of_ten_labels_and_eleven(self):
        console = paged()
        path = (FONT,) * 10
        for word in ["release", "links", "seen", "same -"]:
            self.assert_kept(console, UnknownPath, {"value": path}, f"{word} {path_words(path)}")
            command = f"{word} {path_words(path + (FONT,))}"
            self.assert_kept(console, InvalidCommand, {"value": command}, command)

    def test_code_by_its_form(self):
        console = paged()
        for text in NO_EXPRESSION_TEXTS + [expression_words(nested(6)), expression_words(wide(31)), "f -> own (make 1)"]:
            for command in [f"run {text}", f"publish font 2.0 | f -> own {text}"]:
                self.assert_kept(console, InvalidCommand, {"value": command}, command)
        self.assertEqual("-:5", console.execute(f"run {expression_words(nested(5))}"))
        for function in ["f -> own", "f own own own own own -> own (make 1)", "F -> own (make 1)", "f font -> own (make 1)",
                         "", "f -> own (make 1) |", " f -> own (make 1)"]:
            command = f"publish font 2.0 | {function}"
            self.assert_kept(console, InvalidCommand, {"value": command}, command)
        for command in ["declare lid | f -> own (make 1)", "need font/1.0 | f -> own (make 1)",
                        "packages | f -> own (make 1)", "publish font 2.0 |", "publish | f -> own (make 1)",
                        "publish font 2.0| f -> own (make 1)", "publish font 2.0  | f -> own (make 1)"]:
            self.assert_kept(console, InvalidCommand, {"value": command}, command)

    def test_names_that_are_words_of_commands(self):
        console = Console(Library())
        self.assert_answers(console, ("declare undo", "ok"), ("declare sole", "ok"), ("declare lock sole", "ok"),
                            ("publish undo 0.0 | run -> own (make 4)", "ok"),
                            ("publish lock 1.0 undo/0.0+", "ok"), ("need undo/0.0", "new:undo/0"),
                            ("run (call undo/0 run)", "undo/0:4"), ("drop undo/0", "gone:undo/0"),
                            ("versions sole", "-"), ("packages", "undo sole lock"))


class RunTest(ConsoleCase):
    def test_lists_of_commands(self):
        console = Console(fonts_library())
        self.assertEqual([], console.run([]))
        self.assertEqual(["font page"], console.run(commands=["packages"]))
        self.assertEqual(["new:page/1 new:page/1>font/1", "2", "ok", "- page/1 page/1>font/1"],
                         console.run(["need page/1.0", "lock", "limit 9", "copies"]))
        self.assertEqual([(0, 0), (1, 1), (4, 4)], console.log())
        self.assertEqual([9, 2], [console.workspace().step_limit, len(console.workspace())])
        self.assertEqual(["gone:page/1 gone:page/1>font/1", "-"], console.run(["undo 2", "needs"]))

    def test_values_that_are_no_lists(self):
        console = paged()
        log = console.log()
        for value in without_kind(odd_values(), list) + [("packages",), "packages", {"packages": 1}]:
            self.assert_fails(InvalidCommand, {"value": value}, console.run, value)
        self.assertEqual(log, console.log())

    def test_a_command_that_is_refused(self):
        console = paged()
        console.execute("limit 500")
        before = whole(console.workspace())
        for commands, results in [(["drop lid/0"], 0), (["limit 3", "undo 2", "drop lid/0"], 2),
                                  (["lock", "declare lid", "drop lid/0", "no command"], 2)]:
            self.assert_fails(NoNeed, {"label": ("lid", 0)}, console.run, commands)
            self.assertEqual([before, (len(commands), results)], [whole(console.workspace()), console.log()[-1]])
        self.assert_fails(InvalidCommand, {"value": None}, console.run, ["limit 3", None, "drop lid/0"])
        self.assertEqual([before, [(2, 2), (1, 0), (3, 2), (4, 2), (3, 1)]], [whole(console.workspace()), console.log()])

    def test_the_log_tells_of_lists_alone(self):
        console = Console(fonts_library())
        console.execute("need page/1.0")
        self.assert_fails(InvalidCommand, {"value": "no"}, console.execute, "no")
        self.assertEqual([], console.log())

    def test_what_is_passed_and_returned(self):
        console = paged()
        commands = ["packages", "lock"]
        results, log, workspace = console.run(commands), console.log(), console.workspace()
        before = whole(console.workspace())
        self.assertEqual(["packages", "lock"], commands)
        commands.clear()
        results.clear()
        log.clear()
        workspace.undo(3)
        workspace.step_limit = 2
        self.assertEqual([before, [(2, 2), (2, 2)]], [whole(console.workspace()), console.log()])

    def test_consoles_and_workspaces_over_one_library(self):
        library = fonts_library()
        one, other, workspace = Console(library), Console(library=library), Workspace(library)
        one.run(["declare lid", "need font/1.0"])
        library.declare("cap")
        workspace.declare("pin")
        self.assertEqual(["font page lid", "font page"], [one.execute("packages"), other.execute("packages")])
        self.assertEqual([[], [(2, 2)]], [other.log(), one.log()])
        self.assertEqual(["font", "page", "pin"], workspace.library().packages())
        self.assertEqual(everything(fonts_library()), everything(other.workspace().library()))

    def test_a_new_console(self):
        chance = random.Random(123)
        for _ in range(5):
            library = drawn_library(chance)
            console = Console(library)
            self.assertEqual([Workspace(library), [], 0], [console.workspace(), console.log(), len(console.workspace())])


if __name__ == "__main__":
    unittest.main()
