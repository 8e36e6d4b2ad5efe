"""The examples of the document, with the answers that the document gives."""

import unittest

# The lines with which the examples of stage 1 begin.
STAGE_1 = r"""
>>> from leastlinks.registry import Registry
>>> registry = Registry()
>>> registry.declare("text")
>>> registry.publish("text", (0, 0))
>>> registry.publish("text", (0, 1))
>>> registry.declare("list", sole=True)
>>> registry.publish("list", (1, 0), [("text", (0, 0), True)])
"""

STAGE_1_EXAMPLES = r"""
>>> from leastlinks.names import is_label, is_name, is_path, is_version
>>> [is_name("text"), is_name("Text"), is_version((1, 0)), is_version((1, True)), is_label(("text", 1)), is_path(())]
[True, False, True, False, True, True]

>>> from leastlinks.names import path_text, read_path, read_version, version_text
>>> [version_text((1, 20)), path_text(()), path_text((("list", 1), ("text", 0))), read_version("0.3"), read_path("list/1")]
['1.20', '-', 'list/1>text/0', (0, 3), (('list', 1),)]

>>> from leastlinks.names import read_version
>>> read_version("0.03")
raises InvalidText(line=1)

>>> [len(registry), registry, registry == registry.clone(), registry == Registry()]
[3, Registry(['text', 'list'], 3), True, False]

>>> str(registry)
'package text\nrelease text 0.0\nrelease text 0.1\npackage list sole\nrelease list 1.0 text/0.0+\n'

>>> [Registry.of(a=False, b=True), Registry.read("package a\npackage b sole\n") == Registry.of(a=False, b=True)]
[Registry(['a', 'b'], 0), True]

>>> Registry.read("package a\nrelease a 0.1\nrelease a 0.0\n")
raises InvalidText(line=3)

>>> registry.declare("text", sole=True)
raises NameTaken(value='text')

>>> registry.publish("list", (1, 1), [("text", (0, 1), False)])
raises NotGrowing(label=('text', 0))

>>> registry.publish("text", (0, 2), [("list", (1, 0), True)])
raises NotEarlier(user='text', used='list')

>>> [registry.packages(), registry.is_sole("list"), registry.versions("text"), registry.needs("list", (1, 0))]
[['text', 'list'], True, [(0, 0), (0, 1)], [('text', (0, 0), True)]]

>>> [registry.has_package("text"), registry.has_label(("list", 0)), registry.has_release("list", (1, 0))]
[True, False, True]

>>> list(registry.releases())
[('text', (0, 0)), ('text', (0, 1)), ('list', (1, 0))]
"""

SIGHT_EXAMPLES = r"""
>>> from leastlinks.registry import Registry
>>> r = Registry.of(font=False, page=False, site=False)
>>> done = [r.publish("font", (1, 0)), r.publish("font", (1, 1))]
>>> done = [r.publish("page", (1, 0), [("font", (1, 0), True)]), r.publish("page", (1, 1), [("font", (1, 1), True)])]
>>> done = r.publish("site", (1, 0), [("page", (1, 0), False)])
>>> from leastlinks.sight import seen_chains, seen_labels, sees, shown_labels, shows
>>> chain = (("page", 1), ("font", 1))
>>> [sees(r, "site", (1, 0), chain), shows(r, "site", (1, 0), chain), sees(r, "site", (1, 0), (("font", 1),))]
[True, False, False]

>>> from leastlinks.registry import Registry
>>> r = Registry.of(font=False, page=False, site=False)
>>> done = [r.publish("font", (1, 0)), r.publish("font", (1, 1))]
>>> done = [r.publish("page", (1, 0), [("font", (1, 0), True)]), r.publish("page", (1, 1), [("font", (1, 1), True)])]
>>> done = r.publish("site", (1, 0), [("page", (1, 0), False)])
>>> from leastlinks.sight import seen_chains, seen_labels, shown_labels
>>> [seen_labels(r, "site", (1, 0)), shown_labels(r, "site", (1, 0)), list(seen_chains(r, "site", (1, 0)))]
[[('font', 1), ('page', 1)], [], [(('page', 1),), (('page', 1), ('font', 1))]]
"""

PROMPT = ">>> "


def answer_to(lines):
    """What the last of these lines answers, in the words of the document."""
    names = {}
    for line in lines[:-1]:
        exec(line.removeprefix(PROMPT), names)
    try:
        return repr(eval(lines[-1].removeprefix(PROMPT), names))
    except Exception as error:
        told = ", ".join(f"{name}={value!r}" for name, value in vars(error).items())
        return f"raises {error.__class__.__name__}({told})"


class ExamplesTest(unittest.TestCase):
    def assert_answers(self, beginning, examples, count):
        sessions = [session.strip().split("\n") for session in examples.split("\n\n")]
        self.assertEqual(count, len(sessions))
        for *lines, answer in sessions:
            self.assertEqual(answer, answer_to(beginning.strip().split("\n") * bool(beginning) + lines))

    def test_stage_1(self):
        self.assert_answers(STAGE_1, STAGE_1_EXAMPLES, 13)

    def test_sight(self):
        self.assert_answers("", SIGHT_EXAMPLES, 2)


if __name__ == "__main__":
    unittest.main()
