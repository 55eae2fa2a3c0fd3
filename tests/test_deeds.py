import unittest
from copy import deepcopy
from itertools import product

from asking import Asker, condition_holds, holding, lists_within, telling_moments
from forms import SheetTest
from moments import ALL_SPANS, FAR, STRETCHES, moments_in, span_of
from whenrows.deeds import change, cut, put
from whenrows.errors import NoStretch, NoWidth
from whenrows.sheets import sheet_of

SHEET = [((1, 4), [(None, 3), (5, 8)]), ((1, 6), [(2, 6)]), ((2, 4), [(0, None)])]
ALL = ("either", ("is", 0, 0), ("not", ("is", 0, 0)))
NO_STRETCHES = [(0, 0), (1, 0), (-1, -1), (-1, -2), (5, -5), (FAR, FAR), (FAR, -FAR), (FAR, FAR - 1)]
OPEN_STRETCHES = [(None, 4), (4, None), (None, None), (None, -FAR), (FAR, None)]


def plain_put(rows, row):
    return set(rows) | {row}


def plain_cut(rows, condition):
    return {row for row in rows if not condition_holds(condition, row)}


def plain_change(rows, condition, column, value):
    answer = set()
    for row in rows:
        cells = list(row)
        if condition_holds(condition, row):
            cells[column] = value
        answer.add(tuple(cells))
    return answer


PLAINLY = {put: plain_put, cut: plain_cut, change: plain_change}


class DeedTest(SheetTest):
    def assert_right(self, deed, sheet, *told):
        """At the moments of the stretch what the plain deed does, and nothing at others; the last two told are it."""
        handed_in = deepcopy((sheet, *told))
        answer = deed(*handed_in)
        self.assertEqual(handed_in, (sheet, *told))
        self.assert_form(answer)
        self.assert_own_lists(answer, handed_in)
        *rest, start, end = told
        for moment in telling_moments({"sheet": sheet, "stretch": [((), [(start, end)])]}):
            rows = holding(sheet, moment)
            if (start is None or start <= moment) and (end is None or moment < end):
                rows = sorted(PLAINLY[deed](rows, *rest))
            self.assertEqual(holding(answer, moment), rows, (deed.__name__, sheet, told, moment))
        return answer

    def assert_done(self, deed, told, expected, sheet=SHEET):
        self.assertEqual(self.assert_right(deed, sheet, *told), expected, told)

    def assert_refused(self, refusal, deed, *told):
        handed_in = deepcopy(told)
        with self.assertRaises(refusal) as caught:
            deed(*handed_in)
        self.assertIs(type(caught.exception), refusal, told)
        self.assertEqual(handed_in, told)


class TestPut(DeedTest):
    def test_a_row_that_is_new(self):
        for start, end in OPEN_STRETCHES + [(4, 5), (-FAR, FAR)]:
            self.assert_done(put, ((0, 9), start, end), [((0, 9), [(start, end)])] + SHEET)
            self.assert_done(put, ((1, 5), start, end), [SHEET[0], ((1, 5), [(start, end)])] + SHEET[1:])
            self.assert_done(put, ((3, 0), start, end), SHEET + [((3, 0), [(start, end)])])

    def test_a_row_that_holds_at_other_moments(self):
        for (start, end), span in [
            ((3, 5), [(None, 8)]), ((3, 4), [(None, 4), (5, 8)]), ((4, 5), [(None, 3), (4, 8)]),
            ((9, 12), [(None, 3), (5, 8), (9, 12)]), ((8, 12), [(None, 3), (5, 12)]), ((7, 12), [(None, 3), (5, 12)]),
            ((None, 6), [(None, 8)]), ((1, None), [(None, None)]), ((4, None), [(None, 3), (4, None)]),
        ]:
            self.assert_done(put, ((1, 4), start, end), [((1, 4), span)] + SHEET[1:])

    def test_a_row_that_holds_then_already(self):
        for start, end in [(5, 8), (6, 7), (None, 3), (None, -FAR), (-5, 0)]:
            self.assert_done(put, ((1, 4), start, end), SHEET)

    def test_into_a_sheet_without_rows(self):
        for start, end in STRETCHES:
            for row in [(7,), (1, 2, 3, 4, 5)]:
                self.assert_done(put, (row, start, end), [(row, [(start, end)])], [])

    def test_any_span_and_any_stretch(self):
        for span, stretch in product(ALL_SPANS[1:], STRETCHES):
            expected = [((7,), span_of(moments_in(span) | moments_in([stretch]))), ((8,), span)]
            self.assertEqual(put([((7,), span), ((8,), span)], (7,), *stretch), expected)

    def test_no_stretch(self):
        for (start, end), sheet in product(NO_STRETCHES, [SHEET, []]):
            self.assert_refused(NoStretch, put, sheet, (1, 4), start, end)

    def test_no_width(self):
        for row, (start, end) in product([(1,), (1, 4, 0), (1, 4, 0, 0, 0)], OPEN_STRETCHES + [(0, 1)]):
            self.assert_refused(NoWidth, put, SHEET, row, start, end)

    def test_no_stretch_comes_ahead_of_no_width(self):
        for row, (start, end) in product([(1,), (1, 4, 0)], NO_STRETCHES):
            self.assert_refused(NoStretch, put, SHEET, row, start, end)


class TestCut(DeedTest):
    def test_rows_that_meet_the_condition(self):
        self.assert_done(
            cut, (("is", 1, 4), 2, 6),
            [((1, 4), [(None, 2), (6, 8)]), ((1, 6), [(2, 6)]), ((2, 4), [(0, 2), (6, None)])],
        )
        self.assert_done(cut, (("not", ("is", 1, 4)), 2, 6), [SHEET[0], SHEET[2]])
        self.assert_done(cut, (("not", ("is", 1, 4)), 3, 4), [SHEET[0], ((1, 6), [(2, 3), (4, 6)]), SHEET[2]])
        self.assert_done(cut, (("is", 1, 99), None, None), SHEET)

    def test_from_ever_and_for_ever(self):
        self.assert_done(cut, (ALL, None, 2), [((1, 4), [(2, 3), (5, 8)]), ((1, 6), [(2, 6)]), ((2, 4), [(2, None)])])
        self.assert_done(cut, (ALL, 2, None), [((1, 4), [(None, 2)]), ((2, 4), [(0, 2)])])
        self.assert_done(cut, (ALL, None, None), [])
        self.assert_done(cut, (("under", 0, 2), None, None), [SHEET[2]])
        self.assert_done(cut, (ALL, FAR, None), SHEET[:2] + [((2, 4), [(0, FAR)])])
        self.assert_done(cut, (ALL, None, -FAR), [((1, 4), [(-FAR, 3), (5, 8)])] + SHEET[1:])

    def test_of_a_sheet_without_rows(self):
        for start, end in STRETCHES:
            self.assert_done(cut, (("below", 7, 9), start, end), [], [])

    def test_any_span_and_any_stretch(self):
        for span, stretch in product(ALL_SPANS[1:], STRETCHES):
            left = moments_in(span) - moments_in([stretch])
            expected = [((7,), span_of(left))] if left else []
            self.assertEqual(cut([((7,), span), ((8,), span)], ("is", 0, 7), *stretch), expected + [((8,), span)])

    def test_no_stretch(self):
        for (start, end), sheet, condition in product(NO_STRETCHES, [SHEET, []], [ALL, ("is", 0, 99)]):
            self.assert_refused(NoStretch, cut, sheet, condition, start, end)


class TestChange(DeedTest):
    def test_rows_that_meet_the_condition(self):
        self.assert_done(
            change, (("is", 1, 6), 0, 9, 3, 5),
            [SHEET[0], ((1, 6), [(2, 3), (5, 6)]), SHEET[2], ((9, 6), [(3, 5)])],
        )
        self.assert_done(change, (("is", 1, 6), 1, 5, 0, 9), [SHEET[0], ((1, 5), [(2, 6)]), SHEET[2]])
        self.assert_done(change, (("is", 1, 99), 1, 5, None, None), SHEET)

    def test_from_ever_and_for_ever(self):
        self.assert_done(
            change, (("is", 0, 1), 0, -3, None, 6),
            [((-3, 4), [(None, 3), (5, 6)]), ((-3, 6), [(2, 6)]), ((1, 4), [(6, 8)]), SHEET[2]],
        )
        self.assert_done(
            change, (("is", 1, 4), 1, FAR, 2, None),
            [
                ((1, 4), [(None, 2)]), ((1, 6), [(2, 6)]), ((1, FAR), [(2, 3), (5, 8)]),
                ((2, 4), [(0, 2)]), ((2, FAR), [(2, None)]),
            ],
        )
        self.assert_done(
            change, (ALL, 0, 0, None, None), [((0, 4), [(None, None)]), ((0, 6), [(2, 6)])],
        )

    def test_first_and_last_column_of_one_and_five(self):
        self.assert_done(change, (ALL, 0, 2, 0, 1), [((2,), [(0, 1)])], [((1,), [(0, 1)])])
        for column in range(5):
            row = tuple(9 if place == column else place for place in range(5))
            self.assert_done(change, (ALL, column, 9, 0, 1), [(row, [(0, 1)])], [((0, 1, 2, 3, 4), [(0, 1)])])

    def test_rows_that_become_the_same(self):
        # As one another ..
        self.assert_done(
            change, (("is", 0, 1), 1, 0, 1, 7),
            [((1, 0), [(1, 7)]), ((1, 4), [(None, 1), (7, 8)]), SHEET[2]],
        )
        # .. and as one that is there.
        self.assert_done(
            change, (("is", 0, 1), 0, 2, None, 6),
            [((1, 4), [(6, 8)]), ((2, 4), [(None, None)]), ((2, 6), [(2, 6)])],
        )
        self.assert_done(
            change, (("is", 0, 3), 0, 2, 0, 9), [((2,), [(0, 5)])], [((2,), [(0, 4)]), ((3,), [(1, 5)])],
        )

    def test_a_row_that_has_the_value_already(self):
        for start, end in OPEN_STRETCHES + [(2, 6), (-1, 0)]:
            self.assert_done(change, (("is", 0, 1), 0, 1, start, end), SHEET)

    def test_the_condition_is_asked_of_the_row_as_it_was(self):
        # A row that comes to meet the condition by the change of another is not changed after it.
        self.assert_done(
            change, (("is", 0, 1), 0, 2, 0, 9), [((2, 7), [(0, 9)])], [((1, 7), [(0, 9)])],
        )
        self.assert_done(
            change, (("under", 0, 2), 0, 1, 0, 9), [((1,), [(0, 9)]), ((2,), [(0, 9)])],
            [((0,), [(0, 9)]), ((1,), [(3, 4)]), ((2,), [(0, 9)])],
        )
        self.assert_done(
            change, (("below", 0, 1), 0, 5, 0, 9), [((3, 2), [(0, 9)]), ((5, 2), [(0, 9)])],
            [((1, 2), [(0, 9)]), ((3, 2), [(0, 9)])],
        )

    def test_of_a_sheet_without_rows(self):
        for start, end in STRETCHES:
            self.assert_done(change, (("is", 4, 1), 7, 2, start, end), [], [])

    def test_any_spans_and_any_stretch(self):
        for one, other in product(ALL_SPANS, ALL_SPANS[::3]):
            sheet = [(row, span) for row, span in [((7,), one), ((8,), other)] if span]
            for stretch in STRETCHES:
                during = moments_in([stretch])
                left, there = moments_in(one) - during, moments_in(other) | moments_in(one) & during
                expected = [(row, span_of(held)) for row, held in [((7,), left), ((8,), there)] if held]
                self.assertEqual(change(sheet, ("is", 0, 7), 0, 8, *stretch), expected)

    def test_no_stretch(self):
        for (start, end), sheet, condition in product(NO_STRETCHES, [SHEET, []], [ALL, ("is", 0, 99)]):
            self.assert_refused(NoStretch, change, sheet, condition, 0, 1, start, end)


class TestManyDeeds(DeedTest):
    def stretch(self, asker):
        return asker.chance.choice(asker.span())

    def test_over_many_sheets(self):
        asker = Asker(11)
        for turn in range(300):
            width = 1 + turn % 3
            sheet = asker.sheets()[["one", "two", "three"][width - 1]]
            condition = asker.condition(width, 2)
            row = tuple(asker.numbers(width, 3))
            self.assert_right(put, sheet, row, *self.stretch(asker))
            self.assert_right(cut, sheet, condition, *self.stretch(asker))
            column, value = asker.chance.randrange(width), asker.chance.randrange(4)
            self.assert_right(change, sheet, condition, column, value, *self.stretch(asker))

    def test_one_deed_after_another(self):
        asker = Asker(12)
        for turn in range(30):
            sheet = []
            for step in range(20):
                kind = asker.chance.randrange(4)
                if kind == 0:
                    sheet = self.assert_right(cut, sheet, asker.condition(2, 1), *self.stretch(asker))
                elif kind == 1:
                    column, value = asker.numbers(2, 2)
                    sheet = self.assert_right(
                        change, sheet, asker.condition(2, 1), column, value, *self.stretch(asker)
                    )
                else:
                    sheet = self.assert_right(put, sheet, tuple(asker.numbers(2, 3)), *self.stretch(asker))

    def test_two_ways_to_the_same_are_equal(self):
        self.assertEqual(put(put([], (1,), 0, 4), (1,), 4, 9), put([], (1,), 0, 9))
        self.assertEqual(cut(put(SHEET, (9, 9), 0, 4), ("is", 0, 9), None, None), SHEET)
        self.assertEqual(cut(put([], (1,), 0, 9), ALL, 3, 5), sheet_of([((1,), 0, 3), ((1,), 5, 9)]))
        self.assertEqual(change(change(SHEET, ("is", 1, 6), 1, 7, 3, 5), ("is", 1, 7), 1, 6, 3, 5), SHEET)
        first_half = change(SHEET, ALL, 1, 0, None, 4)
        self.assertEqual(change(SHEET, ALL, 1, 0, None, None), change(first_half, ALL, 1, 0, 4, None))

    def test_sixty_figures(self):
        sheet = [((-FAR,), [(-FAR, FAR)]), ((FAR,), [(None, -FAR)])]
        self.assert_done(put, ((FAR,), -FAR, FAR), [sheet[0], ((FAR,), [(None, FAR)])], sheet)
        self.assert_done(
            cut, (("is", 0, -FAR), 1 - FAR, FAR - 1),
            [((-FAR,), [(-FAR, 1 - FAR), (FAR - 1, FAR)]), sheet[1]], sheet,
        )
        self.assert_done(
            change, (("under", 0, 0), 0, FAR, FAR - 1, None),
            [((-FAR,), [(-FAR, FAR - 1)]), ((FAR,), [(None, -FAR), (FAR - 1, FAR)])], sheet,
        )

    def test_thirty_rows_with_twenty_stretches(self):
        sheet = [((cell, 0), [(9 * turn + cell, 9 * turn + cell + 5) for turn in range(20)]) for cell in range(30)]
        self.assert_right(put, sheet, (7, 0), 3, 100)
        self.assert_right(cut, sheet, ("under", 0, 20), 30, 90)
        self.assert_right(change, sheet, ALL, 0, 0, None, 77)


class TestNothingIsShared(DeedTest):
    DEEDS = [
        (put, ((9, 9), 0, 4)), (put, ((1, 4), 3, 5)), (put, ((1, 4), 6, 7)),
        (cut, (("is", 1, 4), 2, 6)), (cut, (("is", 1, 99), 2, 6)), (cut, (ALL, 90, 91)), (cut, (ALL, None, None)),
        (change, (("is", 1, 6), 0, 9, 3, 5)), (change, (("is", 1, 99), 0, 9, 3, 5)), (change, (ALL, 0, 9, 90, 91)),
    ]

    def test_every_list_given_is_a_new_one(self):
        for sheet in ([], SHEET):
            for deed, told in self.DEEDS:
                self.assert_right(deed, sheet, *told)

    def test_one_list_handed_in_for_several_rows(self):
        span = [(0, 5)]
        sheet = [((1, 4), span), ((2, 4), span)]
        for deed, told in self.DEEDS:
            answer = deed(sheet, *told)
            self.assert_own_lists(answer, sheet)

    def test_changing_what_was_given_changes_nothing(self):
        for deed, told in self.DEEDS:
            sheet = deepcopy(SHEET)
            answer = deed(sheet, *told)
            kept = deepcopy(answer)
            for each in lists_within(answer):
                each.append("more")
            self.assertEqual(sheet, SHEET)
            self.assertEqual(deed(sheet, *told), kept)

    def test_what_was_given_stays(self):
        for deed, told in self.DEEDS:
            sheet = deepcopy(SHEET)
            answer = deed(sheet, *told)
            kept = deepcopy(answer)
            for other, others_told in self.DEEDS:
                other(answer, *others_told)
                other(sheet, *others_told)
            for each in lists_within(sheet):
                each.clear()
            self.assertEqual(answer, kept)


if __name__ == "__main__":
    unittest.main()
