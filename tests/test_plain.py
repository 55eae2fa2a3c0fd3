import unittest
from copy import deepcopy

from asking import KINDS, Asker, answer_set, lists_within
from moments import FAR
from whenrows.questions import plain

A, B, NONE, ONE = [("table", name) for name in ("a", "b", "none", "one")]
TABLES = {
    "a": [(0, 5, 2), (1, -3, 2), (1, 4, 2), (2, 4, 0)],
    "b": [(-1, 0, 0), (1, 4, 2), (2, 4, 0), (3, 0, 0)],
    "one": [(7,), (9,)],
    "none": [],
}
COUNT = ("count",)


class PlainTest(unittest.TestCase):
    def assert_plain(self, question, rows, tables=TABLES):
        handed_in = deepcopy((question, tables))
        answer = plain(*handed_in)
        self.assertEqual(handed_in, (question, tables))
        self.assertIs(type(answer), list)
        for row in answer:
            self.assertIs(type(row), tuple)
        self.assertEqual(answer, rows, question)


class TestEachKind(PlainTest):
    def test_table(self):
        for name, rows in TABLES.items():
            self.assert_plain(("table", name), rows)

    def test_pick(self):
        self.assert_plain(("pick", ("is", 0, 1), A), [(1, -3, 2), (1, 4, 2)])
        self.assert_plain(("pick", ("same", 1, 2), B), [(-1, 0, 0), (3, 0, 0)])
        self.assert_plain(("pick", ("below", 1, 0), A), [(1, -3, 2)])
        self.assert_plain(("pick", ("under", 2, 2), A), [(2, 4, 0)])
        self.assert_plain(("pick", ("both", ("is", 0, 1), ("not", ("is", 1, 4))), A), [(1, -3, 2)])
        self.assert_plain(("pick", ("either", ("is", 0, 0), ("is", 2, 0)), A), [(0, 5, 2), (2, 4, 0)])
        self.assert_plain(("pick", ("is", 0, 99), A), [])
        self.assert_plain(("pick", ("is", 0, 1), NONE), [])

    def test_columns(self):
        self.assert_plain(("columns", [0], A), [(0,), (1,), (2,)])
        self.assert_plain(("columns", [2], A), [(0,), (2,)])
        self.assert_plain(("columns", [1, 0], A), [(-3, 1), (4, 1), (4, 2), (5, 0)])
        self.assert_plain(("columns", [2, 2], A), [(0, 0), (2, 2)])
        self.assert_plain(("columns", [2, 1, 2], A), [(0, 4, 0), (2, -3, 2), (2, 4, 2), (2, 5, 2)])
        self.assert_plain(("columns", [0] * 10, ONE), [(7,) * 10, (9,) * 10])
        self.assert_plain(("columns", [4, 4], NONE), [])

    def test_join(self):
        self.assert_plain(
            ("join", ONE, ("columns", [0, 2], A)),
            [(7, 0, 2), (7, 1, 2), (7, 2, 0), (9, 0, 2), (9, 1, 2), (9, 2, 0)],
        )
        self.assert_plain(("join", ONE, ONE), [(7, 7), (7, 9), (9, 7), (9, 9)])
        self.assert_plain(("join", ONE, NONE), [])
        self.assert_plain(("join", NONE, ONE), [])
        self.assert_plain(("join", NONE, NONE), [])

    def test_union(self):
        both = [(-1, 0, 0), (0, 5, 2), (1, -3, 2), (1, 4, 2), (2, 4, 0), (3, 0, 0)]
        self.assert_plain(("union", A, B), both)
        self.assert_plain(("union", B, A), both)
        self.assert_plain(("union", A, A), TABLES["a"])
        self.assert_plain(("union", A, NONE), TABLES["a"])
        self.assert_plain(("union", NONE, A), TABLES["a"])
        self.assert_plain(("union", NONE, NONE), [])

    def test_common(self):
        self.assert_plain(("common", A, B), [(1, 4, 2), (2, 4, 0)])
        self.assert_plain(("common", B, A), [(1, 4, 2), (2, 4, 0)])
        self.assert_plain(("common", A, A), TABLES["a"])
        self.assert_plain(("common", A, NONE), [])
        self.assert_plain(("common", NONE, A), [])

    def test_less(self):
        self.assert_plain(("less", A, B), [(0, 5, 2), (1, -3, 2)])
        self.assert_plain(("less", B, A), [(-1, 0, 0), (3, 0, 0)])
        self.assert_plain(("less", A, A), [])
        self.assert_plain(("less", A, NONE), TABLES["a"])
        self.assert_plain(("less", NONE, A), [])


class TestGroup(PlainTest):
    ALL = [COUNT, ("sum", 1), ("least", 1), ("greatest", 1)]

    def test_by_no_column(self):
        self.assert_plain(("group", [], self.ALL, A), [(4, 10, -3, 5)])
        self.assert_plain(("group", [], [COUNT], ONE), [(2,)])
        self.assert_plain(("group", [], [("greatest", 0), ("least", 0), ("greatest", 0)], ONE), [(9, 7, 9)])

    def test_by_one_column(self):
        self.assert_plain(("group", [0], self.ALL, A), [(0, 1, 5, 5, 5), (1, 2, 1, -3, 4), (2, 1, 4, 4, 4)])
        self.assert_plain(("group", [2], [("sum", 0)], A), [(0, 2), (2, 2)])

    def test_by_several_columns_in_their_order_and_twice(self):
        self.assert_plain(("group", [2, 0], [COUNT], A), [(0, 2, 1), (2, 0, 1), (2, 1, 2)])
        self.assert_plain(("group", [0, 2], [COUNT], A), [(0, 2, 1), (1, 2, 2), (2, 0, 1)])
        self.assert_plain(("group", [2, 2], [COUNT], A), [(0, 0, 1), (2, 2, 3)])

    def test_without_sums(self):
        self.assert_plain(("group", [0], [], A), [(0,), (1,), (2,)])
        self.assert_plain(("group", [2, 0], [], A), [(0, 2), (2, 0), (2, 1)])

    def test_cells_that_are_alike_count_for_each_row(self):
        self.assert_plain(("group", [], [("sum", 2), ("least", 2), ("greatest", 2)], A), [(6, 0, 2)])
        self.assert_plain(("group", [0], [("sum", 0)], A), [(0, 0), (1, 2), (2, 2)])

    def test_columns_told_ahead_make_rows_the_same(self):
        self.assert_plain(("group", [], [COUNT, ("sum", 0)], ("columns", [2], A)), [(2, 2)])

    def test_of_a_table_without_rows(self):
        self.assert_plain(("group", [], [COUNT], NONE), [])
        self.assert_plain(("group", [], self.ALL, NONE), [])
        self.assert_plain(("group", [0, 1], self.ALL, NONE), [])
        self.assert_plain(("group", [0], [], NONE), [])
        self.assert_plain(("group", [], [COUNT], ("pick", ("is", 0, 99), A)), [])

    def test_sixty_figures(self):
        tables = {"far": [(-FAR, 0), (FAR - 1, 0), (FAR, 0)]}
        far = ("table", "far")
        sums = [COUNT, ("sum", 0), ("least", 0), ("greatest", 0)]
        self.assert_plain(("group", [1], sums, far), [(0, 3, FAR - 1, -FAR, FAR)], tables)
        self.assert_plain(("group", [], [("sum", 0)], ("pick", ("under", 1, 1), far)), [(FAR - 1,)], tables)


class TestSeveralWithinOneAnother(PlainTest):
    def test_a_matching_join(self):
        matched = ("pick", ("same", 0, 3), ("join", A, B))
        self.assert_plain(
            ("columns", [0, 1, 4], matched), [(1, -3, 4), (1, 4, 4), (2, 4, 4)],
        )
        self.assert_plain(("group", [0], [COUNT], matched), [(1, 2), (2, 1)])

    def test_a_group_of_a_group(self):
        sizes = ("group", [0], [COUNT], A)
        self.assert_plain(("group", [1], [COUNT, ("greatest", 0)], sizes), [(1, 2, 2), (2, 1, 1)])

    def test_order_is_that_of_numbers(self):
        tables = {"a": [(-10,), (-9,), (9,), (10,)], "b": [(-FAR,), (FAR,)]}
        self.assert_plain(("union", A, B), [(-FAR,), (-10,), (-9,), (9,), (10,), (FAR,)], tables)
        self.assert_plain(
            ("columns", [1, 0], ("join", A, B)),
            [(far, near) for far in (-FAR, FAR) for near in (-10, -9, 9, 10)],
            tables,
        )

    def test_many_questions(self):
        asker = Asker(3)
        for kind in KINDS:
            for turn in range(150):
                question = asker.question(1 + turn % 3, 4, kind)
                tables = asker.tables()
                self.assert_plain(question, sorted(answer_set(question, tables)), tables)

    def test_eighty_parts(self):
        deep = ONE
        for turn in range(79):
            deep = ("columns", [0], deep)
        self.assert_plain(deep, [(7,), (9,)])
        tables = {str(place): [(place,)] for place in range(40)}
        wide = ("table", "0")
        for place in range(1, 40):
            wide = ("union", ("table", str(place)), wide)
        self.assert_plain(wide, [(place,) for place in range(40)], tables)

    def test_two_thousand_rows(self):
        tables = {"forty": [(cell,) for cell in range(40)], "fifty": [(cell,) for cell in range(50)]}
        joined = ("join", ("table", "fifty"), ("table", "forty"))
        rows = [(fifty, forty) for fifty in range(50) for forty in range(40)]
        self.assert_plain(joined, rows, tables)
        lower = ("pick", ("below", 0, 1), joined)
        self.assert_plain(("less", joined, lower), [row for row in rows if row[0] >= row[1]], tables)
        self.assert_plain(("group", [1], [("sum", 0)], joined), [(forty, 1225) for forty in range(40)], tables)


class TestNothingIsShared(PlainTest):
    QUESTIONS = [
        A, NONE, ("pick", ("under", 0, 99), A), ("pick", ("is", 0, 99), A), ("columns", [0, 1, 2], A), ("join", A, ONE),
        ("union", A, NONE), ("union", NONE, A), ("union", A, A), ("common", A, A), ("less", A, NONE),
        ("group", [0, 1, 2], [], A), ("group", [0], [("sum", 1)], A), ("group", [], [COUNT], NONE),
    ]

    def test_every_list_given_is_a_new_one(self):
        for question in self.QUESTIONS:
            tables = deepcopy(TABLES)
            answer = plain(question, tables)
            handed_in = {id(each) for each in lists_within((question, tables))}
            self.assertFalse(handed_in & {id(each) for each in lists_within(answer)}, question)

    def test_changing_what_was_given_changes_nothing(self):
        for question in self.QUESTIONS:
            asked_before, tables = deepcopy((question, TABLES))
            answer = plain(asked_before, tables)
            kept = list(answer)
            answer.append("more")
            answer[0] = "other"
            self.assertEqual((asked_before, tables), (question, TABLES))
            self.assertEqual(plain(asked_before, tables), kept)

    def test_what_was_given_stays(self):
        for question in self.QUESTIONS:
            tables = deepcopy(TABLES)
            answer = plain(question, tables)
            kept = list(answer)
            for other in self.QUESTIONS:
                plain(other, tables)
            for rows in tables.values():
                rows.clear()
            self.assertEqual(answer, kept)


if __name__ == "__main__":
    unittest.main()
