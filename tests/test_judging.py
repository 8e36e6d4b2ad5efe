import random
import unittest

from leastlinks.errors import InvalidDerivation
from leastlinks.judging import RULES, first_wrong, is_derivation, needed_rows
from leastlinks.projects import Project
from leastlinks.registry import Registry
from tests.drawing import drawn_project
from tests.rules import WORDS, all_derived, consequences
from tests.support import EqualToAll, ErrorCase, NoComparing, odd_values, without_kind
from tests.test_facts import WRONG_FACTS

S1, S2, T, X, Y, Z = ("s", 1), ("s", 2), ("t", 0), ("x", 0), ("y", 0), ("z", 0)


def stage():
    """A project in which each rule can be used.

    s is sole and needed in two generations; y shows its needs, x hides them, z shows x and y.
    """
    registry = Registry.read("\n".join([
        "package t", "release t 0.0", "release t 0.1", "release t 0.2", "package s sole", "release s 1.0 t/0.0+", "release s 1.1 t/0.1+",
        "release s 2.0 t/0.0+", "package x", "release x 0.0 s/1.0 t/0.1", "release x 0.1 s/1.1 t/0.1", "package y",
        "release y 0.0 s/1.1+ t/0.0+", "release y 1.0 s/2.0 t/0.0", "package z", "release z 0.0 x/0.0+ y/0.0+ y/1.0", ""]))
    needs = [("t", (0, 0)), ("x", (0, 0)), ("y", (0, 0)), ("y", (1, 0)), ("z", (0, 0))]
    return Project(registry, needs, locks=[((X,), (0, 1)), ((X, T), (0, 2)), ((Y, S1), (1, 1))])


def at_least(path, version):
    return ("atleast", path, version)


def same(path, other):
    return ("same", path, other)


# Rows that are right one after the other, with each line of the table at least once.
Y1 = ("y", 1)
ROWS = [
    (at_least((X,), (0, 0)), "main", ()),                                   # 0
    (at_least((Y,), (0, 0)), "main", ()),                                   # 1
    (at_least((Z,), (0, 0)), "main", ()),                                   # 2
    (at_least((X, S1), (1, 0)), "need", (0,)),                              # 3
    (at_least((Y, S1), (1, 1)), "need", (1,)),                              # 4
    (at_least((Y, S1), (1, 0)), "less", (4,)),                              # 5
    (at_least((X,), (0, 1)), "lock", (0,)),                                 # 6
    (same((T,), (Y, T)), "sight", ()),                                      # 7
    (same((Y, S1, T), (Y, T)), "sight", (1,)),                              # 8
    (same((X, S1), (Y, S1)), "sole", (3, 4)),                               # 9
    (at_least((Y, S1, T), (0, 1)), "need", (4,)),                           # 10
    (same((Y, S1), (X, S1)), "turn", (9,)),                                 # 11
    (same((Y, S1, T), (X, S1, T)), "below", (11, 10)),                      # 12
    (at_least((X, S1), (1, 1)), "transfer", (11, 4)),                       # 13
    (same((Y, T), (Y, S1, T)), "sight", (1,)),                              # 14
    (same((Y, T), (X, S1, T)), "join", (14, 12)),                           # 15
    (at_least((Y1,), (1, 0)), "main", ()),                                  # 16
    (at_least((Y1, S2), (2, 0)), "need", (16,)),                            # 17
    (same((Y1, S2), (X, S1)), "sole", (17, 3)),                             # 18
    (("absurd",), "absurd", (18,)),                                         # 19
]


class RulesTest(ErrorCase):
    def assert_rows(self, wrong, rows):
        """Each of these rows is right, or wrong, behind all right ones."""
        for row in rows:
            self.assertEqual(len(ROWS) if wrong else None, first_wrong(stage(), ROWS + [row]), row)
            self.assertIs(not wrong, is_derivation(stage(), ROWS + [row]), row)

    def test_the_names_of_the_rules(self):
        self.assertEqual(WORDS, RULES)
        self.assertIs(tuple, type(RULES))

    def test_right_rows(self):
        for count in range(len(ROWS) + 1):
            self.assertIsNone(first_wrong(stage(), ROWS[:count]))
            self.assertIs(count > 0, is_derivation(stage(), ROWS[:count]))
        self.assertIsNone(first_wrong(rows=ROWS, project=stage()))
        self.assertIs(True, is_derivation(value=ROWS, project=stage()))

    def test_main(self):
        self.assert_rows(False, [(at_least((T,), (0, 0)), "main", ()), (at_least((Y1,), (1, 0)), "main", ())])
        self.assert_rows(True, [
            (at_least((X,), (0, 1)), "main", ()), (at_least((T,), (0, 1)), "main", ()), (at_least((S1,), (1, 0)), "main", ()),
            (at_least((X, S1), (1, 0)), "main", ()), (at_least((X,), (0, 0)), "main", (0,)), (same((X,), (X,)), "main", ()),
            (("absurd",), "main", ())])

    def test_need(self):
        self.assert_rows(False, [(at_least((X, T), (0, 1)), "need", (0,)), (at_least((X, S1), (1, 1)), "need", (6,)),
                                 (at_least((Y, S1, T), (0, 0)), "need", (5,)), (at_least((Y1, T), (0, 0)), "need", (16,))])
        self.assert_rows(True, [
            (at_least((X, T), (0, 0)), "need", (0,)), (at_least((X, T), (0, 2)), "need", (0,)), (at_least((Y, T), (0, 1)), "need", (0,)),
            (at_least((T,), (0, 1)), "need", (0,)), (at_least((X, S1), (1, 1)), "need", (0,)), (at_least((X, S2), (2, 0)), "need", (0,)),
            (at_least((X, S1, T), (0, 1)), "need", (0,)), (at_least((X, T), (0, 1)), "need", ()), (at_least((X, T), (0, 1)), "need", (0, 0)),
            (at_least((X, T), (0, 1)), "need", (7,)), (same((X, T), (X, T)), "need", (0,)), (at_least((X,), (0, 0)), "need", (0,)),
            (at_least((Y, S1, T), (0, 1)), "need", (5,)), (("absurd",), "need", (19,))])

    def test_less(self):
        self.assert_rows(False, [(at_least((X,), (0, 0)), "less", (6,)), (at_least((Y, S1, T), (0, 0)), "less", (10,))])
        self.assert_rows(True, [
            (at_least((X,), (0, 1)), "less", (6,)), (at_least((X,), (0, 0)), "less", (0,)), (at_least((X,), (0, 1)), "less", (0,)),
            (at_least((Y,), (0, 0)), "less", (6,)), (at_least((X,), (0, 0)), "less", ()), (at_least((X,), (0, 0)), "less", (6, 6)),
            (at_least((Y, S2), (2, 0)), "less", (4,)), (same((X,), (X,)), "less", (9,)), (at_least((X, S1), (1, 0)), "less", (9,))])

    def test_lock(self):
        self.assert_rows(False, [(at_least((X,), (0, 1)), "lock", (6,)), (at_least((Y, S1), (1, 1)), "lock", (5,))])
        self.assert_rows(True, [
            (at_least((X,), (0, 0)), "lock", (0,)), (at_least((Y,), (0, 0)), "lock", (1,)), (at_least((X,), (0, 1)), "lock", (1,)),
            (at_least((X,), (0, 1)), "lock", ()), (at_least((X,), (0, 1)), "lock", (0, 0)), (at_least((X, T), (0, 2)), "lock", (0,)),
            (at_least((Y, S1), (1, 0)), "lock", (4,)), (at_least((X, S1), (1, 1)), "lock", (3,)), (same((X,), (X,)), "lock", (0,))])

    def test_sight(self):
        self.assert_rows(False, [
            (same((T,), (T,)), "sight", ()), (same((Y, T), (Y, S1, T)), "sight", ()), (same((Z, Y, S1), (Y, S1)), "sight", ()),
            (same((Z, X), (X,)), "sight", ()), (same((X, T), (X, S1, T)), "sight", (0,)), (same((X, T), (X, T)), "sight", (0,)),
            (same((Z, Y, T), (Z, Y, S1, T)), "sight", (2,)), (same((X, S1, T), (X, T)), "sight", (6,)),
            (same((Y1, T), (Y1, S2, T)), "sight", (16,))])
        self.assert_rows(True, [
            # Hidden needs of named releases, and chains that end differently or begin elsewhere.
            (same((X, T), (T,)), "sight", ()), (same((X, T), (X, T)), "sight", ()), (same((Y1, T), (Y1, T)), "sight", ()),
            (same((Z, X, T), (Z, Y, T)), "sight", (2,)), (same((Z, Y1, T), (Z, Y, T)), "sight", (2,)), (same((X,), (Y,)), "sight", ()),
            (same((X, T), (X, S1)), "sight", (0,)), (same((X, T), (Y, T)), "sight", (0,)), (same((Y, T), (X, T)), "sight", (0,)),
            (same((T,), (T,)), "sight", (0,)), (same((X,), (X,)), "sight", (0,)), (same((X, T), (X,)), "sight", (0,)),
            (same((X, S2), (X, S2)), "sight", (0,)), (same((X, X), (X, X)), "sight", (0,)), (same((T,), (Y, T)), "sight", (7,)),
            (same((X, T), (X, T)), "sight", (0, 0)), (at_least((X, T), (0, 1)), "sight", (0,)), (same((S1,), (S1,)), "sight", ())])

    def test_sole(self):
        self.assert_rows(False, [
            (same((Y, S1), (X, S1)), "sole", (4, 3)), (same((X, S1), (X, S1)), "sole", (3, 3)), (same((X, S1), (X, S1)), "sole", (3, 13)),
            (same((Y, S1), (Y1, S2)), "sole", (5, 17))])
        self.assert_rows(True, [
            (same((X, S1), (Y, S1)), "sole", (4, 3)), (same((X, S1), (Y, S1)), "sole", (3,)), (same((X, S1), (X, S1)), "sole", (3,)),
            (same((X, S1), (Y, S1)), "sole", (3, 4, 4)), (same((X, S1), (Y, S2)), "sole", (3, 4)), (same((X,), (Y,)), "sole", (0, 1)),
            (same((X,), (X,)), "sole", (0, 0)), (same((X, S1), (X,)), "sole", (3, 0)), (same((X,), (X, S1)), "sole", (0, 3)),
            (same((X, S1), (Y, S1)), "sole", (9, 4)), (same((X, S1), (Y, S1)), "sole", (3, 9)), (at_least((X, S1), (1, 1)), "sole", (3, 4)),
            (same((X, S1), (Z, Y, S1)), "sole", (3, 4))])

    def test_below(self):
        self.assert_rows(False, [(same((Y, S1, T), (X, S1, T)), "below", (11, 10))])
        more = [(at_least((X, S1, T), (0, 0)), "need", (3,)), (same((X, S1, T), (Y, S1, T)), "below", (9, 20))]
        self.assertIsNone(first_wrong(stage(), ROWS + more))
        # The paths may end differently, and the needs of the second one are not asked for.
        elsewhere = [(at_least((X, T), (0, 1)), "need", (0,)), (same((X, T), (X, S1, T)), "below", (11, 20))]
        self.assertEqual(21, first_wrong(stage(), ROWS + elsewhere))
        apart = [(same((X, S1), (Y1, S2)), "turn", (18,)), more[0], (same((X, S1, T), (Y1, S2, T)), "below", (20, 21))]
        self.assertIsNone(first_wrong(stage(), ROWS + apart))
        self.assert_rows(True, [
            (same((X, S1, T), (Y, S1, T)), "below", (11, 10)), (same((Y, S1, T), (X, S1, T)), "below", (10, 11)),
            (same((Y, S1, T), (X, S1, T)), "below", (9, 10)), (same((Y, S1, T), (X, S1, T)), "below", (11,)),
            (same((Y, S1, T), (X, S1, S1)), "below", (11, 10)), (same((Y, S1, T), (X, S1, T)), "below", (11, 4)),
            (same((Y, S1, T), (X, T)), "below", (11, 10)), (same((Y, S1, T), (X, S1, T)), "below", (11, 10, 10)),
            (same((Y, T), (X, S1, T)), "below", (11, 10)), (same((Y, S1), (X, S1)), "below", (11, 4)), (at_least((X, S1, T), (0, 1)), "below", (11, 10)),
            (same((Y, S1, T), (X, S1, T)), "below", (11, 11))])

    def test_transfer(self):
        self.assert_rows(False, [(at_least((Y, S1), (1, 0)), "transfer", (9, 3)), (at_least((X, S1), (1, 0)), "transfer", (11, 5)),
                                 (at_least((X, S1, T), (0, 1)), "transfer", (12, 10))])
        self.assert_rows(True, [
            (at_least((Y, S1), (1, 1)), "transfer", (9, 3)), (at_least((X, S1), (1, 0)), "transfer", (11, 4)),
            (at_least((X, S1), (1, 0)), "transfer", (11, 3)), (at_least((Y, S1), (1, 1)), "transfer", (9, 4)),
            (at_least((X, S1), (1, 1)), "transfer", (9, 4)), (at_least((Y, S1), (1, 1)), "transfer", (11, 4)),
            (at_least((X, S1), (1, 1)), "transfer", (4, 11)), (at_least((X, S1), (1, 1)), "transfer", (11,)),
            (at_least((X, S1), (1, 1)), "transfer", (11, 4, 4)), (at_least((X, S1), (2, 0)), "transfer", (18, 17)),
            (at_least((X, S1), (1, 0)), "transfer", (18, 17)), (at_least((X, S1), (1, 1)), "transfer", (18, 17)),
            (same((X, S1), (Y, S1)), "transfer", (9, 3)), (at_least((X, S1), (1, 1)), "transfer", (11, 11))])

    def test_turn(self):
        self.assert_rows(False, [(same((Y, T), (T,)), "turn", (7,)), (same((X, S1), (Y1, S2)), "turn", (18,))])
        self.assert_rows(True, [
            (same((T,), (Y, T)), "turn", (7,)), (same((Y, T), (Y, T)), "turn", (7,)), (same((T,), (T,)), "turn", (7,)),
            (same((Y, T), (T,)), "turn", ()), (same((Y, T), (T,)), "turn", (7, 7)), (same((X,), (X,)), "turn", (0,)),
            (at_least((X,), (0, 0)), "turn", (0,)), (("absurd",), "turn", (19,))])

    def test_join(self):
        self.assert_rows(False, [(same((T,), (X, S1, T)), "join", (7, 15)), (same((Y, S1), (Y, S1)), "join", (11, 9)),
                                 (same((Y1, S2), (Y, S1)), "join", (18, 9))])
        self.assert_rows(True, [
            (same((X, S1, T), (T,)), "join", (7, 15)), (same((T,), (X, S1, T)), "join", (15, 7)), (same((T,), (Y, T)), "join", (7, 15)),
            (same((T,), (X, S1, T)), "join", (7,)), (same((T,), (X, S1, T)), "join", (7, 15, 15)), (same((T,), (Y, S1, T)), "join", (7, 8)),
            (same((Y, T), (X, S1, T)), "join", (7, 15)), (same((Y, S1), (X, S1)), "join", (11, 11)), (same((X,), (Y,)), "join", (0, 1)),
            (at_least((X,), (0, 0)), "join", (7, 15))])

    def test_absurd(self):
        self.assert_rows(False, [(("absurd",), "absurd", (18,))])
        self.assert_rows(True, [
            (("absurd",), "absurd", (9,)), (("absurd",), "absurd", (7,)), (("absurd",), "absurd", ()), (("absurd",), "absurd", (18, 18)),
            (("absurd",), "absurd", (17,)), (("absurd",), "absurd", (19,)), (same((X,), (Y,)), "absurd", (18,)),
            (at_least((X,), (0, 1)), "absurd", (19,))])

    def test_each_row_with_another_rule(self):
        for position, (fact, rule, premises) in enumerate(ROWS):
            for other in WORDS:
                right = fact in consequences(stage(), other, [ROWS[at][0] for at in premises])
                self.assertIs(right, is_derivation(stage(), ROWS[:position] + [(fact, other, premises)]))
            for other in ["Main", "", "sights", b"main", None, 0, True, ("main",), ["main"], EqualToAll(), NoComparing()] + odd_values():
                self.assertEqual(position, first_wrong(stage(), ROWS[:position] + [(fact, other, premises)]))

    def test_each_row_with_other_premises(self):
        for position, (fact, rule, premises) in enumerate(ROWS):
            wrong = [None, 0, True, "0", list(premises), {}, premises + (position,), premises + (-1,), premises + (None,),
                     (position,), (position + 1,), (-1,), (-position,), (10 ** 29,), (None,), ((0,),), ([],), ("0",), (NoComparing(),),
                     (EqualToAll(),) * len(premises) or (EqualToAll(),), premises + (0, 0, 0)]
            wrong += [tuple(number - position for number in premises)] if premises else []
            for value in wrong + without_kind(odd_values(), tuple):
                self.assertEqual(position, first_wrong(stage(), ROWS[:position] + [(fact, rule, value)]), (fact, rule))

    def test_bools_are_no_numbers_of_rows(self):
        rows = [ROWS[0], ROWS[1], (at_least((X, S1), (1, 0)), "need", (False,))]
        self.assertEqual(2, first_wrong(stage(), rows))
        self.assertEqual(2, first_wrong(stage(), rows[:2] + [(at_least((Y, S1), (1, 1)), "need", (True,))]))
        self.assertIsNone(first_wrong(stage(), rows[:2] + [(at_least((Y, S1), (1, 1)), "need", (1,))]))

    def test_rows_whose_facts_are_no_facts(self):
        wrong = WRONG_FACTS + [at_least((X,), (False, 0)), at_least((("x", False),), (0, 0)), at_least((X,), (0, 7)), at_least([X], (0, 0)),
                               at_least((X,), [0, 0]), at_least((), (0, 0)), ["atleast", (X,), (0, 0)]]
        for fact in wrong + odd_values():
            for rule in WORDS:
                self.assertEqual(0, first_wrong(stage(), [(fact, rule, ())]))
            self.assertEqual(20, first_wrong(stage(), ROWS + [(fact, "main", ())]))

    def test_elements_that_are_no_rows(self):
        for value in [list(ROWS[0]), ROWS[0][:2], ROWS[0] + ((),), (), None, "main", ROWS[0][0], [ROWS[0]]] + odd_values():
            self.assertEqual(0, first_wrong(stage(), [value]))
            self.assertEqual(3, first_wrong(stage(), ROWS[:3] + [value] + ROWS[3:] + [None]))

    def test_the_first_wrong_row(self):
        wrong = (at_least((X,), (0, 1)), "main", ())
        self.assertEqual(0, first_wrong(stage(), [wrong] + ROWS))
        self.assertEqual(5, first_wrong(stage(), ROWS[:5] + [wrong] + ROWS[5:] + [wrong]))
        # A row that rests on a wrong one comes behind it; the same row may stand twice.
        self.assertEqual(1, first_wrong(stage(), [ROWS[0], wrong, (at_least((X, S1), (1, 1)), "need", (1,))]))
        self.assertIsNone(first_wrong(stage(), ROWS + [ROWS[0], ROWS[3]]))

    def test_values_that_are_no_derivations(self):
        for value in without_kind(odd_values(), list) + [tuple(ROWS), dict(enumerate(ROWS)), ROWS[0], None]:
            self.assertIs(False, is_derivation(stage(), value))
            self.assert_fails(InvalidDerivation, {"value": value}, first_wrong, stage(), value)
            self.assert_fails(InvalidDerivation, {"value": value}, needed_rows, stage(), value)
        self.assertEqual([None, False], [first_wrong(stage(), []), is_derivation(stage(), [])])
        for value in [[], [None], ROWS + [None], [(ROWS[3][0], "need", (0,))]]:
            self.assert_fails(InvalidDerivation, {"value": value}, needed_rows, stage(), value)
            self.assertIs(False, is_derivation(stage(), value))

    def test_rows_of_another_project(self):
        project = stage().without_need(("x", 0))
        self.assertEqual(0, first_wrong(project, ROWS))
        self.assertEqual(6, first_wrong(stage().with_locks(()), ROWS))
        self.assertEqual(0, first_wrong(Project(Registry()), ROWS))


class DrawnTest(ErrorCase):
    def test_drawn_rows_by_the_table(self):
        chance = random.Random(50)
        answers = {True: 0, False: 0}
        for _ in range(90):
            project = drawn_project(chance, names="abc", releases=7, needs=2)
            rows = all_derived(project)
            self.assertIsNone(first_wrong(project, rows))
            facts = [row[0] for row in rows]
            for _ in range(60 if rows else 0):
                rule = chance.choice(WORDS)
                numbers = tuple(chance.choices(range(len(rows)), k=chance.randrange(3)))
                follow = consequences(project, rule, [facts[number] for number in numbers])
                fact = chance.choice(follow) if follow and chance.random() < 0.7 else chance.choice(facts)
                right = fact in follow
                answers[right] += 1
                self.assertIs(right, is_derivation(project, rows + [(fact, rule, numbers)]), (fact, rule, numbers))
        self.assertGreater(min(answers.values()), 200)


class NeededRowsTest(ErrorCase):
    def test_the_rows_on_which_the_last_one_rests(self):
        self.assertEqual(ROWS[:1], needed_rows(stage(), ROWS[:1]))
        self.assertEqual([ROWS[0], (ROWS[3][0], "need", (0,))], needed_rows(stage(), ROWS[:4]))
        self.assertEqual([ROWS[1], (ROWS[4][0], "need", (0,)), (ROWS[5][0], "less", (1,))], needed_rows(stage(), ROWS[:6]))
        self.assertEqual([ROWS[7]], needed_rows(stage(), ROWS[:8]))
        self.assertEqual([ROWS[0], (ROWS[3][0], "need", (0,)), (ROWS[16][0], "main", ()), (ROWS[17][0], "need", (2,)),
                          (ROWS[18][0], "sole", (3, 1)), (("absurd",), "absurd", (4,))], needed_rows(rows=ROWS, project=stage()))

    def test_a_row_that_is_named_twice(self):
        rows = [ROWS[1], ROWS[0], (ROWS[3][0], "need", (1,)), (same((X, S1), (X, S1)), "sole", (2, 2))]
        self.assertEqual([ROWS[0], (ROWS[3][0], "need", (0,)), (rows[3][0], "sole", (1, 1))], needed_rows(stage(), rows))

    def test_equal_rows_at_two_places(self):
        rows = [ROWS[0], ROWS[0], (ROWS[3][0], "need", (1,)), (ROWS[3][0], "need", (0,))]
        self.assertEqual([ROWS[0], (ROWS[3][0], "need", (0,))], needed_rows(stage(), rows))

    def test_the_argument_is_not_changed_and_the_list_is_new(self):
        rows = list(ROWS)
        needed = needed_rows(stage(), rows)
        needed.clear()
        self.assertEqual(ROWS, rows)
        one = needed_rows(stage(), rows[:1])
        self.assertIsNot(rows, one)
        first_wrong(stage(), rows)
        self.assertEqual(ROWS, rows)

    def test_drawn_derivations(self):
        chance = random.Random(51)
        for _ in range(60):
            project = drawn_project(chance, names="abc", releases=7, needs=2)
            rows = all_derived(project)
            for count in range(1, len(rows) + 1, 5):
                needed = needed_rows(project, rows[:count])
                self.assertTrue(is_derivation(project, needed))
                self.assertEqual(rows[count - 1][:2], needed[-1][:2])
                self.assertEqual(needed, needed_rows(project, needed))
                named = {number for row in needed for number in row[2]}
                self.assertEqual(set(range(len(needed) - 1)), named)


if __name__ == "__main__":
    unittest.main()
