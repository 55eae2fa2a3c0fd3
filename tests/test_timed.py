import unittest
from copy import deepcopy
from itertools import combinations, product

from asking import KINDS, WIDTHS, Asker, answer_set, holding, lists_within, telling_moments
from forms import SheetTest
from moments import ALL_SPANS, FAR, MOMENTS, moments_in, span_of
from whenrows.questions import plain
from whenrows.sheets import cut_at, sheet_bounds
from whenrows.timed import asked

A, B, NONE = [("table", name) for name in ("a", "b", "none")]
SHEETS = {
    "a": [((1, 4), [(None, 3), (5, 8)]), ((1, 6), [(2, 6)]), ((2, 4), [(0, None)])],
    "b": [((1, 4), [(2, 6)]), ((2, 4), [(None, None)]), ((3, 0), [(7, 9)])],
    "none": [],
}
COUNT = ("count",)


class TimedTest(SheetTest):
    def assert_right(self, question, sheets):
        """The answer has the one form, and cut at any moment it is the plain answer to the sheets cut then."""
        handed_in = deepcopy((question, sheets))
        answer = asked(*handed_in)
        self.assertEqual(handed_in, (question, sheets))
        self.assert_form(answer)
        for moment in telling_moments(sheets):
            tables = {name: holding(sheet, moment) for name, sheet in sheets.items()}
            rows = cut_at(answer, moment)
            self.assertEqual(rows, sorted(answer_set(question, tables)), (question, moment))
            self.assertEqual(rows, plain(question, tables), (question, moment))
        bounds = {bound for sheet in sheets.values() for bound in sheet_bounds(sheet)}
        self.assertLessEqual(set(sheet_bounds(answer)), bounds, question)
        return answer

    def assert_asked(self, question, expected, sheets=SHEETS):
        self.assertEqual(self.assert_right(question, sheets), expected, question)


class TestEachKind(TimedTest):
    def test_table(self):
        for name, sheet in SHEETS.items():
            self.assert_asked(("table", name), sheet)

    def test_pick(self):
        self.assert_asked(("pick", ("is", 1, 4), A), [SHEETS["a"][0], SHEETS["a"][2]])
        self.assert_asked(("pick", ("both", ("below", 0, 1), ("not", ("is", 1, 4))), A), [SHEETS["a"][1]])
        self.assert_asked(("pick", ("is", 1, 99), A), [])
        self.assert_asked(("pick", ("is", 1, 4), NONE), [])

    def test_columns(self):
        self.assert_asked(("columns", [0], A), [((1,), [(None, 8)]), ((2,), [(0, None)])])
        self.assert_asked(("columns", [1], A), [((4,), [(None, None)]), ((6,), [(2, 6)])])
        self.assert_asked(
            ("columns", [1, 0, 1], A),
            [((4, 1, 4), [(None, 3), (5, 8)]), ((4, 2, 4), [(0, None)]), ((6, 1, 6), [(2, 6)])],
        )
        self.assert_asked(("columns", [1, 1], B), [((0, 0), [(7, 9)]), ((4, 4), [(None, None)])])
        self.assert_asked(("columns", [0], NONE), [])

    def test_columns_whose_stretches_touch(self):
        sheets = {"a": [((1, 1), [(0, 3)]), ((1, 2), [(3, 5)]), ((1, 3), [(6, 7)]), ((2, 1), [(5, 6)])]}
        self.assert_asked(("columns", [0], A), [((1,), [(0, 5), (6, 7)]), ((2,), [(5, 6)])], sheets)

    def test_join(self):
        self.assert_asked(
            ("join", A, B),
            [
                ((1, 4, 1, 4), [(2, 3), (5, 6)]), ((1, 4, 2, 4), [(None, 3), (5, 8)]), ((1, 4, 3, 0), [(7, 8)]),
                ((1, 6, 1, 4), [(2, 6)]), ((1, 6, 2, 4), [(2, 6)]),
                ((2, 4, 1, 4), [(2, 6)]), ((2, 4, 2, 4), [(0, None)]), ((2, 4, 3, 0), [(7, 9)]),
            ],
        )
        self.assert_asked(("join", A, NONE), [])
        self.assert_asked(("join", NONE, A), [])

    def test_union(self):
        both = [((1, 4), [(None, 8)]), ((1, 6), [(2, 6)]), ((2, 4), [(None, None)]), ((3, 0), [(7, 9)])]
        self.assert_asked(("union", A, B), both)
        self.assert_asked(("union", B, A), both)
        self.assert_asked(("union", A, A), SHEETS["a"])
        self.assert_asked(("union", A, NONE), SHEETS["a"])
        self.assert_asked(("union", NONE, A), SHEETS["a"])

    def test_common(self):
        both = [((1, 4), [(2, 3), (5, 6)]), ((2, 4), [(0, None)])]
        self.assert_asked(("common", A, B), both)
        self.assert_asked(("common", B, A), both)
        self.assert_asked(("common", A, A), SHEETS["a"])
        self.assert_asked(("common", A, NONE), [])
        self.assert_asked(("common", NONE, A), [])

    def test_less(self):
        self.assert_asked(("less", A, B), [((1, 4), [(None, 2), (6, 8)]), ((1, 6), [(2, 6)])])
        self.assert_asked(("less", B, A), [((1, 4), [(3, 5)]), ((2, 4), [(None, 0)]), ((3, 0), [(7, 9)])])
        self.assert_asked(("less", A, A), [])
        self.assert_asked(("less", A, NONE), SHEETS["a"])
        self.assert_asked(("less", NONE, A), [])


class TestGroup(TimedTest):
    def test_by_no_column(self):
        self.assert_asked(
            ("group", [], [COUNT], A),
            [((1,), [(None, 0), (8, None)]), ((2,), [(0, 2), (3, 5), (6, 8)]), ((3,), [(2, 3), (5, 6)])],
        )
        self.assert_asked(
            ("group", [], [("sum", 1), ("least", 0), ("greatest", 1)], A),
            [
                ((4, 1, 4), [(None, 0)]), ((4, 2, 4), [(8, None)]), ((8, 1, 4), [(0, 2), (6, 8)]),
                ((10, 1, 6), [(3, 5)]), ((14, 1, 6), [(2, 3), (5, 6)]),
            ],
        )

    def test_by_columns(self):
        self.assert_asked(
            ("group", [0], [COUNT, ("greatest", 1)], A),
            [
                ((1, 1, 4), [(None, 2), (6, 8)]), ((1, 1, 6), [(3, 5)]), ((1, 2, 6), [(2, 3), (5, 6)]),
                ((2, 1, 4), [(0, None)]),
            ],
        )
        self.assert_asked(
            ("group", [1, 0, 1], [COUNT], B),
            [((0, 3, 0, 1), [(7, 9)]), ((4, 1, 4, 1), [(2, 6)]), ((4, 2, 4, 1), [(None, None)])],
        )
        self.assert_asked(("group", [0], [], A), [((1,), [(None, 8)]), ((2,), [(0, None)])])

    def test_no_row_while_none_holds(self):
        sheets = {"a": [((5,), [(0, 2), (4, 6)]), ((6,), [(5, 9)])]}
        self.assert_asked(("group", [], [COUNT], A), [((1,), [(0, 2), (4, 5), (6, 9)]), ((2,), [(5, 6)])], sheets)
        self.assert_asked(("group", [], [COUNT], NONE), [])
        self.assert_asked(("group", [0], [("sum", 1)], NONE), [])

    def test_one_row_follows_another_and_the_sums_stay(self):
        sheets = {"a": [((1, 7), [(0, 3)]), ((2, 7), [(3, 5)]), ((3, 7), [(5, None)]), ((4, 7), [(None, 0)])]}
        self.assert_asked(
            ("group", [], [COUNT, ("sum", 1), ("least", 1), ("greatest", 1)], A),
            [((1, 7, 7, 7), [(None, None)])], sheets,
        )

    def test_least_and_greatest_while_rows_come_and_go(self):
        sheets = {"a": [((cell,), [(10 * cell, 100 - 10 * cell)]) for cell in range(5)]}
        self.assert_asked(
            ("group", [], [("greatest", 0)], A),
            [((cell,), [(10 * cell, 10 * cell + 10), (90 - 10 * cell, 100 - 10 * cell)]) for cell in range(4)]
            + [((4,), [(40, 60)])],
            sheets,
        )
        self.assert_asked(("group", [], [("least", 0)], A), [((0,), [(0, 100)])], sheets)

    def test_cells_that_are_alike(self):
        sheets = {"a": [((1, 5), [(0, 4)]), ((2, 5), [(2, 6)]), ((3, 2), [(3, 5)])]}
        self.assert_asked(
            ("group", [], [("least", 1), ("greatest", 1), ("sum", 1)], A),
            [((2, 5, 7), [(4, 5)]), ((2, 5, 12), [(3, 4)]), ((5, 5, 5), [(0, 2), (5, 6)]), ((5, 5, 10), [(2, 3)])],
            sheets,
        )

    def test_sums_of_unlike_groups_that_meet_in_one_row(self):
        sheets = {"a": [((1, 1), [(0, 2)]), ((2, 2), [(4, 6)])]}
        self.assert_asked(("columns", [1], ("group", [0], [COUNT], A)), [((1,), [(0, 2), (4, 6)])], sheets)


class TestAllSmallSpans(TimedTest):
    def test_two_rows_that_hold_for_any_spans(self):
        either = ("columns", [0], A)
        count = ("group", [0], [COUNT], A)
        for one, other in combinations(ALL_SPANS, 2):
            sheets = {"a": [((0, place), span) for place, span in enumerate((one, other)) if span]}
            in_one, in_other = moments_in(one), moments_in(other)
            expected = [((0,), span_of(in_one | in_other))]
            self.assertEqual(asked(either, sheets), expected)
            expected = [((0, 1), span_of(in_one ^ in_other)), ((0, 2), span_of(in_one & in_other))]
            self.assertEqual(asked(count, sheets), [entry for entry in expected if entry[1]])

    def test_one_row_in_two_sheets_for_any_spans(self):
        for one, other in product(ALL_SPANS, repeat=2):
            sheets = {"a": [((7,), one)] if one else [], "b": [((7,), other)] if other else []}
            in_one, in_other = moments_in(one), moments_in(other)
            for kind, row, moments in [
                ("union", (7,), in_one | in_other), ("common", (7,), in_one & in_other),
                ("less", (7,), in_one - in_other), ("join", (7, 7), in_one & in_other),
            ]:
                self.assertEqual(asked((kind, A, B), sheets), [(row, span_of(moments))] if moments else [])

    def test_at_every_small_moment(self):
        question = ("less", ("columns", [0], ("join", A, B)), ("pick", ("is", 0, 1), B))
        for one, other in product(ALL_SPANS[1:], repeat=2):
            sheets = {"a": [((0,), one), ((1,), other)], "b": [((1,), one)]}
            answer = asked(question, sheets)
            self.assert_form(answer)
            for moment in MOMENTS:
                tables = {name: holding(sheet, moment) for name, sheet in sheets.items()}
                self.assertEqual(holding(answer, moment), plain(question, tables))


class TestManyQuestions(TimedTest):
    def test_each_kind_over_many_sheets(self):
        asker = Asker(4)
        for kind in KINDS:
            for turn in range(100):
                self.assert_right(asker.question(1 + turn % 3, 4, kind), asker.sheets())

    def test_sheets_without_rows(self):
        asker = Asker(5)
        sheets = {name: [] for name in WIDTHS}
        for kind in KINDS:
            for turn in range(30):
                self.assertEqual(asked(asker.question(1 + turn % 3, 3, kind), sheets), [])

    def test_some_sheets_without_rows(self):
        asker = Asker(6)
        for turn in range(200):
            sheets = asker.sheets()
            sheets[list(WIDTHS)[turn % 4]] = []
            self.assert_right(asker.question(1 + turn % 3, 3), sheets)

    def test_rows_that_always_hold(self):
        asker = Asker(7)
        for turn in range(200):
            tables = asker.tables()
            sheets = {name: [(row, [(None, None)]) for row in rows] for name, rows in tables.items()}
            question = asker.question(1 + turn % 3, 3)
            self.assertEqual(asked(question, sheets), [(row, [(None, None)]) for row in plain(question, tables)])


class TestAlikeQuestions(TimedTest):
    """Two questions that are alike at every moment are answered by equal lists."""

    def assert_alike(self, one, other):
        asker = Asker(8)
        for turn in range(60):
            sheets = asker.sheets()
            self.assertEqual(asked(one, sheets), asked(other, sheets), (one, other, sheets))

    def test_two_tellings_of_one_question(self):
        two, pair, three = [("table", name) for name in ("two", "pair", "three")]
        condition, another = ("below", 0, 1), ("is", 1, 2)
        for one, other in [
            (("union", two, pair), ("union", pair, two)),
            (("common", two, pair), ("less", two, ("less", two, pair))),
            (("less", two, pair), ("less", ("union", two, pair), pair)),
            (("pick", ("both", condition, another), two), ("pick", condition, ("pick", another, two))),
            (("pick", ("either", condition, another), two),
             ("union", ("pick", condition, two), ("pick", another, two))),
            (("pick", ("not", condition), two), ("less", two, ("pick", condition, two))),
            (("columns", [1], three), ("columns", [0], ("columns", [1, 2], three))),
            (("columns", [2, 0], three), ("group", [2, 0], [], three)),
            (("columns", [0, 1, 2], three), three),
            (("group", [0, 1, 2], [], three), three),
            (("join", two, pair), ("columns", [2, 3, 0, 1], ("join", pair, two))),
            (("columns", [0, 1], ("pick", ("both", ("same", 0, 2), ("same", 1, 3)), ("join", two, pair))),
             ("common", two, pair)),
            (("union", ("columns", [0], two), ("columns", [0], pair)), ("columns", [0], ("union", two, pair))),
            (("group", [], [("least", 0)], three), ("group", [], [("least", 0)], ("columns", [0], three))),
            (("group", [0, 0], [("sum", 1)], two), ("columns", [0, 0, 1], ("group", [0], [("sum", 1)], two))),
            (("group", [], [COUNT], ("columns", [0], two)), ("group", [], [COUNT], ("group", [0], [COUNT], two))),
        ]:
            self.assert_alike(one, other)

    def test_a_row_kept_alive_by_one_after_another(self):
        one = {"a": [((1, 1), [(0, 4)]), ((1, 2), [(4, 9)])]}
        other = {"a": [((1, 5), [(0, 9)])]}
        self.assertEqual(asked(("columns", [0], A), one), asked(("columns", [0], A), other))
        self.assertEqual(asked(("group", [0], [COUNT], A), one), asked(("group", [0], [COUNT], A), other))


class TestFarAndMany(TimedTest):
    def test_sixty_figures(self):
        sheets = {
            "a": [((-FAR, 1), [(None, -FAR), (FAR - 1, FAR)]), ((FAR, 1), [(-FAR, FAR)])],
            "b": [((-FAR, 1), [(FAR - 1, None)]), ((FAR, 1), [(None, 1 - FAR)])],
        }
        self.assert_asked(("common", A, B), [((-FAR, 1), [(FAR - 1, FAR)]), ((FAR, 1), [(-FAR, 1 - FAR)])], sheets)
        self.assert_asked(
            ("group", [1], [("sum", 0)], A),
            [((1, -FAR), [(None, -FAR)]), ((1, 0), [(FAR - 1, FAR)]), ((1, FAR), [(-FAR, FAR - 1)])], sheets,
        )
        for kind in ("join", "union", "less"):
            self.assert_right((kind, A, B), sheets)

    def test_thirty_rows_with_twenty_stretches(self):
        sheets = {
            name: [
                ((cell, cell % 4), [(start + 50 * turn, start + 50 * turn + 30) for turn in range(20)])
                for cell, start in enumerate(range(first, first + 210, 7))
            ]
            for name, first in [("a", 0), ("b", 13)]
        }
        joined = ("join", A, B)
        answer = asked(joined, sheets)
        self.assert_form(answer)
        self.assertEqual(len(answer), 900)
        counted = ("group", [1], [COUNT, ("least", 2), ("greatest", 0), ("sum", 3)], joined)
        total = asked(counted, sheets)
        self.assert_form(total)
        for moment in range(-1, 1250, 97):
            tables = {name: holding(sheet, moment) for name, sheet in sheets.items()}
            self.assertEqual(holding(answer, moment), plain(joined, tables))
            self.assertEqual(holding(total, moment), plain(counted, tables))

    def test_eighty_parts(self):
        deep = A
        for turn in range(79):
            deep = ("columns", [1, 0], deep)
        self.assertEqual(asked(deep, SHEETS), asked(("columns", [1, 0], A), SHEETS))
        wide = A
        for turn in range(39):
            wide = ("less", wide, ("pick", ("is", 0, turn), B))
        self.assertEqual(asked(wide, SHEETS), asked(("less", A, B), SHEETS))


class TestNothingIsShared(TimedTest):
    QUESTIONS = [
        A, NONE, ("pick", ("under", 0, 99), A), ("pick", ("is", 0, 99), A), ("columns", [0, 1], A), ("columns", [0], A),
        ("join", A, B), ("union", A, NONE), ("union", NONE, A), ("union", A, A), ("union", A, B), ("common", A, A),
        ("common", A, B), ("less", A, NONE), ("less", A, B), ("group", [0, 1], [], A), ("group", [0], [COUNT], A),
        ("group", [], [("sum", 1), ("least", 0)], A), ("group", [], [COUNT], NONE),
    ]

    def test_every_list_given_is_a_new_one(self):
        for question in self.QUESTIONS:
            sheets = deepcopy(SHEETS)
            answer = asked(question, sheets)
            given = [id(each) for each in lists_within(answer)]
            self.assertEqual(len(given), len(set(given)), question)
            handed_in = {id(each) for each in lists_within((question, sheets))}
            self.assertFalse(handed_in & set(given), question)

    def test_one_list_handed_in_for_several_rows_and_sheets(self):
        span = [(0, 5)]
        sheets = {"a": [((1,), span), ((2,), span)]}
        sheets["b"] = sheets["a"]
        for question in [A, ("union", A, B), ("common", A, B), ("join", A, B), ("columns", [0], A)]:
            answer = asked(question, sheets)
            found = lists_within(answer)
            self.assertEqual(len(found), len({id(each) for each in found}), question)
            for row, own in answer:
                own.append("more")
            self.assertEqual(span, [(0, 5)])

    def test_changing_what_was_given_changes_nothing(self):
        for question in self.QUESTIONS:
            handed_in, sheets = deepcopy((question, SHEETS))
            answer = asked(handed_in, sheets)
            kept = deepcopy(answer)
            for row, span in answer:
                span.append("more")
                span[0] = "other"
            answer.append("more")
            self.assertEqual((handed_in, sheets), (question, SHEETS))
            self.assertEqual(asked(handed_in, sheets), kept)

    def test_what_was_given_stays(self):
        for question in self.QUESTIONS:
            handed_in, sheets = deepcopy((question, SHEETS))
            answer = asked(handed_in, sheets)
            kept = deepcopy(answer)
            for other in self.QUESTIONS:
                asked(other, sheets)
            for each in lists_within((handed_in, sheets)):
                each.clear()
            self.assertEqual(answer, kept)


if __name__ == "__main__":
    unittest.main()
