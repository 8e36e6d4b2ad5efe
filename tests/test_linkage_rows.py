import unittest

from leastlinks.errors import InvalidLinkage, TooMany
from leastlinks.linkages import Linkage
from leastlinks.projects import Project
from tests.drawing import crowded_project, separate_rows
from tests.support import EqualToAll, ErrorCase, NoComparing, fonts, odd_values, without_kind

FONT, PAGE = ("font", 1), ("page", 1)
OLD, NEW = ("font", (1, 0)), ("font", (1, 1))
PAGES = ("page", (1, 0))


def project():
    """The project whose main program needs a font and a page."""
    return Project(fonts(), [("font", (1, 0)), ("page", (1, 0))])


def rows():
    """Right rows of this project: the main copy, its font, its page, and the font of the page."""
    return [(None, {FONT: 1, PAGE: 2}), (OLD, {}), (PAGES, {FONT: 3}), (NEW, {})]


def rows_with(at, row):
    """The right rows with another one at this position."""
    return rows()[:at] + [row] + rows()[at + 1:]


class WrongRowsTest(ErrorCase):
    def assert_wrong(self, problem, row, value, needed=None):
        needed = project() if needed is None else needed
        self.assert_fails(InvalidLinkage, {"problem": problem, "row": row}, Linkage, needed, value)
        self.assert_fails(InvalidLinkage, {"problem": problem, "row": row}, Linkage, rows=value, project=needed)

    def test_values_that_are_no_lists(self):
        for value in without_kind(odd_values(), list) + [(), tuple(rows()), {}, dict(enumerate(rows())), [], None]:
            self.assert_wrong("rows", None, value)

    def test_elements_that_are_no_rows(self):
        for value in without_kind(odd_values(), tuple) + [list(rows()[1]), (), (OLD,), (OLD, {}, {}), (OLD, {}, None)]:
            self.assert_wrong("row", 0, [value])
            self.assert_wrong("row", 0, rows_with(0, value))
            self.assert_wrong("row", 1, rows_with(1, value))
            self.assert_wrong("row", 4, rows() + [value])

    def test_the_release_of_the_main_copy(self):
        for value in [OLD, PAGES, (), False, 0, "", {}] + [value for value in odd_values() if value is not None]:
            self.assert_wrong("release", 0, rows_with(0, (value, {FONT: 1, PAGE: 2})))

    def test_the_releases_of_other_copies(self):
        wrong = [None, list(OLD), ("font", [1, 0]), ("font", (1, 2)), ("font", (True, 0)), ("font", (1, False)), ("text", (1, 0)),
                 ("font",), ("font", (1, 0), True), FONT, "font", ("font", "1.0"), (None, None)]
        for value in wrong + odd_values():
            self.assert_wrong("release", 1, rows_with(1, (value, {})))
            self.assert_wrong("release", 3, rows_with(3, (value, None)))

    def test_links_that_are_no_dicts_of_the_labels(self):
        wrong = [{}, {FONT: 1}, {PAGE: 2}, {FONT: 1, PAGE: 2, ("site", 1): 1}, {FONT: 1, "page": 2}, {FONT: 1, ("page", True): 2},
                 {FONT: 1, ("page", 2): 2}, {FONT: 1, None: 2}, {("font", True): 1, ("page", True): 2}, {"font": 1, "page": 2},
                 {FONT: 1, EqualToAll(): 2}, {FONT: 1, frozenset(): 2}, {OLD: 1, PAGES: 2}, {(FONT,): 1, (PAGE,): 2}]
        for value in wrong + [[FONT, PAGE], [(FONT, 1), (PAGE, 2)], (), None, NoComparing()] + odd_values():
            self.assert_wrong("links", 0, rows_with(0, (None, value)))
        for value in [{FONT: 3}, {("font", 0): 3}, [], None, (), set(), {None: None}]:
            self.assert_wrong("links", 1, rows_with(1, (OLD, value)))
        for value in [{}, {("font", True): 3}, {FONT: 3, PAGE: 2}, {PAGE: 3}, {"font": 3}]:
            self.assert_wrong("links", 2, rows_with(2, (PAGES, value)))

    def test_targets(self):
        # Row 1 has the other label, row 0 has none, and there is no row 4.
        for value in without_kind(odd_values(), int) + [0, -1, 4, 10 ** 29, True, False, 2, "3", None, (3,), [3]]:
            self.assert_wrong("target", 2, rows_with(2, (PAGES, {FONT: value})))
        self.assert_wrong("target", 0, rows_with(0, (None, {FONT: 2, PAGE: 1})))
        self.assert_wrong("target", 0, rows_with(0, (None, {FONT: True, PAGE: 2})))
        self.assert_wrong("target", 0, rows_with(0, (None, {FONT: 1, PAGE: 0})))
        self.assert_wrong("target", 0, rows_with(0, (None, {FONT: -3, PAGE: 2})))

    def test_targets_of_a_smaller_step_or_another_generation(self):
        needed = Project(fonts(), [("font", (1, 1)), ("page", (1, 0))])
        self.assert_wrong("target", 0, rows(), needed)
        self.assertEqual(3, len(Linkage(needed, rows_with(1, (NEW, {})))))
        registry = fonts()
        registry.publish("font", (2, 5))
        self.assert_wrong("target", 0, rows_with(1, (("font", (2, 5)), {})), Project(registry, project().needs()))
        self.assert_wrong("target", 2, rows_with(3, (("font", (2, 5)), {})), Project(registry, project().needs()))
        # A later page needs the later font.
        self.assert_wrong("target", 2, [(None, {FONT: 1, PAGE: 2}), (OLD, {}), (("page", (1, 1)), {FONT: 1})])

    def test_rows_to_which_no_path_leads(self):
        self.assert_wrong("reach", 3, rows_with(2, (PAGES, {FONT: 1})))
        self.assert_wrong("reach", 4, rows() + [(OLD, {}), (NEW, {})])
        self.assert_wrong("reach", 1, [(None, {})] + rows()[1:], Project(fonts()))
        # Row 3 is reached from row 2 alone, to which no path leads.
        self.assert_wrong("reach", 2, [(None, {FONT: 1}), (OLD, {}), (PAGES, {FONT: 3}), (NEW, {})],
                          Project(fonts(), [("font", (1, 0))]))

    def test_of_two_errors_the_one_listed_first(self):
        self.assert_wrong("release", 0, [(1, None)] + [None])
        self.assert_wrong("links", 0, [(None, None), None])
        self.assert_wrong("row", 1, [rows()[0], None, (1, 1)])
        self.assert_wrong("release", 1, [rows()[0], (None, None), None])
        self.assert_wrong("links", 3, [(None, {FONT: 9, PAGE: 9}), rows()[1], rows()[2], (NEW, {FONT: 1})])
        self.assert_wrong("row", 4, [(None, {FONT: 9, PAGE: 9}), rows()[1], (PAGES, {FONT: 9}), rows()[3], [NEW, {}]])
        self.assert_wrong("target", 0, [(None, {FONT: 1, PAGE: 9}), rows()[1], (PAGES, {FONT: 9}), rows()[3], (OLD, {})])
        self.assert_wrong("target", 2, [(None, {FONT: 1, PAGE: 2}), rows()[1], (PAGES, {FONT: 9}), rows()[3], (OLD, {})])


class ManyRowsTest(ErrorCase):
    def test_400_copies_and_401(self):
        needed = crowded_project(400)
        self.assertEqual([401, 400], [len(separate_rows(needed)), len(Linkage(needed, separate_rows(needed)))])
        needed = crowded_project(401)
        everything = separate_rows(needed)
        self.assertEqual(402, len(everything))
        self.assert_fails(TooMany, {"kind": "copies", "limit": 400}, Linkage, needed, everything)
        far = everything + [everything[-1]]
        self.assert_fails(InvalidLinkage, {"problem": "reach", "row": 402}, Linkage, needed, far)
        self.assert_fails(InvalidLinkage, {"problem": "row", "row": 402}, Linkage, needed, everything + [0])

    def test_the_rows_of_a_large_linkage(self):
        linkage = Linkage(crowded_project(400), separate_rows(crowded_project(400)))
        self.assertEqual(linkage, Linkage(linkage.project(), linkage.rows()))
        self.assertEqual(401, len(linkage.copies()))
        self.assertIs(True, linkage.is_solution)


if __name__ == "__main__":
    unittest.main()
