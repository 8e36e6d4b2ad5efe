"""The examples of the document, with the answers that the document gives; they stand in tests/examples, by its stages."""

import pathlib
import unittest

FOLDER = pathlib.Path(__file__).resolve().parent / "examples"
PROMPT = ">>> "


def sessions_of(stage):
    """The examples of a stage, each as its lines."""
    text = (FOLDER / f"stage_{stage}.txt").read_text()
    return [session.split("\n") for session in text.strip().split("\n\n")]


def answer_to(lines):
    """What the last of these lines answers, in the words of the document."""
    names = {}
    for line in lines[:-1]:
        exec(line.removeprefix(PROMPT), names)
    try:
        return repr(eval(lines[-1].removeprefix(PROMPT), names))
    except Exception as error:
        told = ", ".join(f"{name}={value!r}" for name, value in vars(error).items())
        return f"raises {error.__class__.__name__}({told})"


class ExamplesTest(unittest.TestCase):
    def assert_answers(self, beginning, sessions, count):
        self.assertEqual(count, len(sessions))
        for *lines, answer in sessions:
            self.assertEqual(answer, answer_to(beginning + lines), lines)

    def test_stages_whose_examples_begin_with_the_same_lines(self):
        for stage, count in [(1, 13), (5, 5), (8, 7), (9, 12)]:
            beginning, *sessions = sessions_of(stage)
            self.assert_answers(beginning, sessions, count)

    def test_other_stages(self):
        for stage, count in [(2, 7), (3, 5), (4, 8), (6, 8), (7, 5)]:
            self.assert_answers([], sessions_of(stage), count)


if __name__ == "__main__":
    unittest.main()
