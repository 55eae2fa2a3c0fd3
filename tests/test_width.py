import unittest
from copy import deepcopy

from asking import KINDS, WIDTHS, Asker
from whenrows.errors import NoColumn, NoTable, NoWidth
from whenrows.questions import width

ONE, TWO, PAIR, THREE = [("table", name) for name in ("one", "two", "pair", "three")]
NO_TABLE = ("table", "none")
NO_COLUMN = ("columns", [1], ONE)
NO_WIDTH = ("union", ONE, TWO)
REFUSED = [(NO_TABLE, NoTable), (NO_COLUMN, NoColumn), (NO_WIDTH, NoWidth)]


class WidthTest(unittest.TestCase):
    def assert_width(self, question, expected):
        before = deepcopy(question)
        widths = dict(WIDTHS)
        answer = width(question, widths)
        self.assertIs(type(answer), int)
        self.assertEqual(answer, expected, question)
        self.assertEqual((question, widths), (before, WIDTHS))

    def assert_refused(self, question, refusal):
        before = deepcopy(question)
        widths = dict(WIDTHS)
        with self.assertRaises(refusal) as caught:
            width(question, widths)
        self.assertIs(type(caught.exception), refusal, question)
        self.assertEqual((question, widths), (before, WIDTHS))


class TestWidth(WidthTest):
    def test_table(self):
        for name, expected in WIDTHS.items():
            self.assert_width(("table", name), expected)

    def test_pick_has_the_width_of_what_it_is_asked_of(self):
        self.assert_width(("pick", ("is", 0, 99), THREE), 3)
        self.assert_width(("pick", ("same", 0, 1), TWO), 2)

    def test_columns_are_counted_as_they_are_told(self):
        self.assert_width(("columns", [2], THREE), 1)
        self.assert_width(("columns", [0, 0, 0, 0], ONE), 4)
        self.assert_width(("columns", [2, 1, 0, 1, 2, 0, 0, 1, 1, 2], THREE), 10)

    def test_join_adds(self):
        self.assert_width(("join", ONE, THREE), 4)
        self.assert_width(("join", THREE, THREE), 6)

    def test_two_of_like_widths(self):
        for kind in ("union", "common", "less"):
            self.assert_width((kind, TWO, PAIR), 2)
            self.assert_width((kind, ("join", ONE, TWO), THREE), 3)

    def test_group(self):
        self.assert_width(("group", [], [("count",)], THREE), 1)
        self.assert_width(("group", [0], [], THREE), 1)
        self.assert_width(("group", [2, 2, 0], [("count",), ("sum", 2), ("least", 0), ("greatest", 1)], THREE), 7)
        self.assert_width(("group", [], [("sum", 0)] * 5, ONE), 5)

    def test_several_within_one_another(self):
        narrow = ("columns", [5, 0], ("join", THREE, THREE))
        self.assert_width(narrow, 2)
        self.assert_width(("less", ("group", [1], [("count",)], narrow), ("pick", ("below", 0, 1), PAIR)), 2)

    def test_many_questions(self):
        asker = Asker(2)
        for kind in KINDS:
            for expected in (1, 2, 3):
                for turn in range(20):
                    self.assert_width(asker.question(expected, 4, kind), expected)

    def test_eighty_parts(self):
        deep = ONE
        for turn in range(79):
            deep = ("columns", [0], deep)
        self.assert_width(deep, 1)
        wide = ONE
        for turn in range(39):
            wide = ("union", wide, ONE)
        self.assert_width(wide, 1)


class TestNoTable(WidthTest):
    def test_a_name_that_is_not_in_the_dict(self):
        self.assert_refused(NO_TABLE, NoTable)
        self.assert_refused(("table", ""), NoTable)
        self.assert_refused(("pick", ("is", 0, 0), NO_TABLE), NoTable)
        self.assert_refused(("join", ONE, NO_TABLE), NoTable)
        self.assert_refused(("join", NO_TABLE, ONE), NoTable)
        with self.assertRaises(NoTable):
            width(ONE, {})


class TestNoColumn(WidthTest):
    def assert_columns(self, question_of, count):
        """question_of(column) is asked of rows with count cells."""
        for column in range(count):
            width(question_of(column), WIDTHS)
        for column in (-1, -count, -count - 1, count, count + 1, 10 ** 60):
            self.assert_refused(question_of(column), NoColumn)

    def test_in_conditions(self):
        for question, count in [(ONE, 1), (THREE, 3), (("join", TWO, THREE), 5)]:
            self.assert_columns(lambda column: ("pick", ("same", column, 0), question), count)
            self.assert_columns(lambda column: ("pick", ("same", 0, column), question), count)
            self.assert_columns(lambda column: ("pick", ("below", column, 0), question), count)
            self.assert_columns(lambda column: ("pick", ("below", 0, column), question), count)
            self.assert_columns(lambda column: ("pick", ("is", column, 0), question), count)
            self.assert_columns(lambda column: ("pick", ("under", column, 0), question), count)

    def test_in_conditions_within_others(self):
        fine = ("is", 0, 0)
        for kind in ("both", "either"):
            self.assert_columns(lambda column: ("pick", (kind, ("is", column, 0), fine), TWO), 2)
            self.assert_columns(lambda column: ("pick", (kind, fine, ("is", column, 0)), TWO), 2)
        self.assert_columns(lambda column: ("pick", ("not", ("under", column, 0)), TWO), 2)
        self.assert_columns(
            lambda column: ("pick", ("both", fine, ("not", ("either", fine, ("same", 1, column)))), TWO), 2
        )

    def test_values_are_no_columns(self):
        for value in (-1, 2, 99, 10 ** 60 - 1):
            self.assert_width(("pick", ("is", 0, value), ONE), 1)
            self.assert_width(("pick", ("under", 0, value), ONE), 1)

    def test_in_columns(self):
        self.assert_columns(lambda column: ("columns", [column], ONE), 1)
        self.assert_columns(lambda column: ("columns", [0, column], THREE), 3)
        self.assert_columns(lambda column: ("columns", [column, 0], THREE), 3)

    def test_in_groups(self):
        self.assert_columns(lambda column: ("group", [column], [], THREE), 3)
        self.assert_columns(lambda column: ("group", [0, column], [("count",)], THREE), 3)
        for kind in ("sum", "least", "greatest"):
            self.assert_columns(lambda column: ("group", [], [(kind, column)], THREE), 3)
            self.assert_columns(lambda column: ("group", [0], [("count",), (kind, column)], TWO), 2)

    def test_the_width_that_counts_is_that_of_what_it_is_asked_of(self):
        self.assert_refused(("columns", [1], ("columns", [0], THREE)), NoColumn)
        self.assert_width(("columns", [3], ("join", ONE, THREE)), 1)
        self.assert_columns(lambda column: ("columns", [column], ("group", [0], [("count",)], THREE)), 2)
        # The columns' own count is not the one that matters.
        self.assert_refused(("columns", [0, 0, 1], ONE), NoColumn)
        self.assert_refused(("group", [0, 0, 1], [("count",)], ONE), NoColumn)


class TestNoWidth(WidthTest):
    def test_unlike_widths(self):
        for kind in ("union", "common", "less"):
            self.assert_refused((kind, ONE, TWO), NoWidth)
            self.assert_refused((kind, TWO, ONE), NoWidth)
            self.assert_refused((kind, ("join", TWO, PAIR), THREE), NoWidth)
            self.assert_refused((kind, ("group", [0], [("count",)], THREE), THREE), NoWidth)

    def test_a_join_takes_any(self):
        self.assert_width(("join", ONE, TWO), 3)


class TestWhatComesFirst(WidthTest):
    def test_of_two_questions_the_first_one(self):
        for kind in ("join", "union", "common", "less"):
            for one, refusal in REFUSED:
                self.assert_refused((kind, one, ONE), refusal)
                self.assert_refused((kind, ONE, one), refusal)
                for other, later in REFUSED:
                    self.assert_refused((kind, one, other), refusal)

    def test_the_questions_within_ahead_of_its_own(self):
        for within, refusal in REFUSED:
            self.assert_refused(("pick", ("is", 9, 0), within), refusal)
            self.assert_refused(("columns", [9], within), refusal)
            self.assert_refused(("group", [9], [], within), refusal)
            self.assert_refused(("group", [], [("sum", -1)], within), refusal)
        # The second one's refusal comes ahead of the unlike widths of both.
        for kind in ("union", "common", "less"):
            self.assert_refused((kind, THREE, NO_COLUMN), NoColumn)
            self.assert_refused((kind, THREE, NO_TABLE), NoTable)

    def test_what_lies_deep_in_the_first_one(self):
        for one, refusal in REFUSED:
            deep = ("pick", ("is", 0, 0), ("join", ONE, ("columns", [0], one)))
            for other, later in REFUSED:
                self.assert_refused(("join", deep, other), refusal)
                self.assert_refused(("join", ("join", ONE, deep), other), refusal)

    def test_the_first_ones_own_ahead_of_what_lies_in_the_second_one(self):
        for other, later in REFUSED:
            self.assert_refused(("join", ("pick", ("is", 1, 0), ONE), other), NoColumn)
            self.assert_refused(("join", ("less", ONE, TWO), other), NoWidth)


if __name__ == "__main__":
    unittest.main()
