import unittest
from copy import deepcopy
from itertools import combinations, product

from asking import WIDTHS, Asker, cells, holding, lists_within, telling_moments
from forms import SheetTest
from moments import ALL_SPANS, FAR, moments_in, span_of
from whenrows.rules import key_broken, reference_broken

SHEET = [
    ((1, 4, 0), [(None, 3), (5, 8)]), ((1, 5, 0), [(2, 6)]), ((1, 6, 0), [(7, None)]),
    ((2, 4, 7), [(0, None)]), ((3, 4, 7), [(None, -2), (9, 12)]),
]
OTHER = [((0, 1), [(None, 4), (6, 7)]), ((4, 1), [(3, 6)]), ((4, 2), [(5, None)]), ((5, 5), [(None, None)])]


def twice_had(rows, columns):
    """The choices of cells that two of the rows or more have."""
    pairs = [(cells(one, columns), cells(other, columns)) for one, other in combinations(rows, 2)]
    return sorted({one for one, other in pairs if one == other})


def spread(step, length, first):
    """Twenty stretches."""
    return [(step * turn + first, step * turn + first + length) for turn in range(20)]


def referring_nowhere(rows, columns, other_rows, others):
    return [row for row in rows if all(cells(row, columns) != cells(other, others) for other in other_rows)]


class KeyTest(SheetTest):
    def assert_right(self, sheet, columns):
        handed_in = deepcopy((sheet, columns))
        answer = key_broken(*handed_in)
        self.assertEqual(handed_in, (sheet, columns))
        self.assert_form(answer)
        self.assert_own_lists(answer, handed_in)
        for moment in telling_moments({"sheet": sheet}):
            expected = twice_had(holding(sheet, moment), columns)
            self.assertEqual(holding(answer, moment), expected, (sheet, columns, moment))
        return answer

    def assert_broken(self, columns, expected, sheet=SHEET):
        self.assertEqual(self.assert_right(sheet, columns), expected, columns)


class TestKeyBroken(KeyTest):
    def test_one_column(self):
        self.assert_broken([0], [((1,), [(2, 3), (5, 6), (7, 8)])])
        self.assert_broken([1], [((4,), [(None, -2), (0, 3), (5, 8), (9, 12)])])
        self.assert_broken([2], [((0,), [(2, 3), (5, 6), (7, 8)]), ((7,), [(9, 12)])])

    def test_several_columns(self):
        self.assert_broken([0, 2], [((1, 0), [(2, 3), (5, 6), (7, 8)])])
        self.assert_broken([2, 0], [((0, 1), [(2, 3), (5, 6), (7, 8)])])
        self.assert_broken([2, 1], [((7, 4), [(9, 12)])])
        self.assert_broken([0, 1], [])
        self.assert_broken([0, 1, 2], [])

    def test_one_column_twice(self):
        self.assert_broken([0, 0], [((1, 1), [(2, 3), (5, 6), (7, 8)])])
        self.assert_broken([1, 2, 1], [((4, 7, 4), [(9, 12)])])
        self.assert_broken([0, 1, 0, 1], [])

    def test_a_row_alone_breaks_no_key(self):
        self.assert_broken([0], [], [((1, 1), [(None, None)])])
        self.assert_broken([0], [], [((1, 1), [(0, 2), (3, 5)])])

    def test_rows_that_hold_one_after_another(self):
        self.assert_broken([0], [], [((1, 1), [(0, 2), (4, 6)]), ((1, 2), [(2, 4), (6, None)])])

    def test_for_all_time(self):
        always = [(None, None)]
        self.assert_broken([0], [((1,), always)], [((1, 1), always), ((1, 2), always)])
        self.assert_broken([1], [], [((1, 1), always), ((1, 2), always)])

    def test_two_rows_become_three_and_two_again(self):
        sheet = [((1, 1), [(0, 9)]), ((1, 2), [(0, 6)]), ((1, 3), [(3, 9)])]
        self.assert_broken([0], [((1,), [(0, 9)])], sheet)
        sheet = [((1, 1), [(0, 4)]), ((1, 2), [(0, 9)]), ((1, 3), [(4, 9)])]
        self.assert_broken([0], [((1,), [(0, 9)])], sheet)
        sheet = [((1, 1), [(0, 4)]), ((1, 2), [(0, 4)]), ((1, 3), [(4, 9)]), ((1, 4), [(4, 9)])]
        self.assert_broken([0], [((1,), [(0, 9)])], sheet)

    def test_a_sheet_without_rows(self):
        for columns in ([0], [7], [3, 3], [0, 1, 2, 3, 4]):
            self.assert_broken(columns, [], [])

    def test_choices_in_order(self):
        sheet = [((cell, place), [(0, 1)]) for cell in (-FAR, -10, -9, 9, 10, FAR) for place in (0, 1)]
        self.assert_broken([0], [((cell,), [(0, 1)]) for cell in (-FAR, -10, -9, 9, 10, FAR)], sheet)
        self.assert_broken([1], [((0,), [(0, 1)]), ((1,), [(0, 1)])], sheet)

    def test_any_two_spans(self):
        for one, other in product(ALL_SPANS[1:], repeat=2):
            both = moments_in(one) & moments_in(other)
            sheet = [((5, 0), one), ((5, 1), other)]
            self.assertEqual(key_broken(sheet, [0]), [((5,), span_of(both))] if both else [])
            self.assertEqual(key_broken(sheet, [1]), [])

    def test_any_three_spans(self):
        for one, other, third in product(ALL_SPANS[1::2], repeat=3):
            sets = [moments_in(span) for span in (one, other, third)]
            broken = sets[0] & sets[1] | sets[0] & sets[2] | sets[1] & sets[2]
            sheet = [((5, 0), one), ((5, 1), other), ((5, 2), third)]
            self.assertEqual(key_broken(sheet, [0]), [((5,), span_of(broken))] if broken else [])

    def test_many_sheets(self):
        asker = Asker(21)
        for turn in range(300):
            width = 1 + turn % 3
            sheet = asker.sheets()[["one", "two", "three"][width - 1]]
            self.assert_right(sheet, asker.numbers(asker.chance.randrange(1, 4), width))

    def test_far_and_many(self):
        sheet = [((FAR, -FAR), [(None, FAR)]), ((FAR, FAR), [(FAR - 1, None)])]
        self.assert_broken([0], [((FAR,), [(FAR - 1, FAR)])], sheet)
        self.assert_broken([1], [], sheet)
        self.assert_right(sorted(((cell % 4, cell), spread(9, 5, cell)) for cell in range(30)), [0])


class ReferenceTest(SheetTest):
    def assert_right(self, sheet, columns, other, others):
        told = (sheet, columns, other, others)
        handed_in = deepcopy(told)
        answer = reference_broken(*handed_in)
        self.assertEqual(handed_in, told)
        self.assert_form(answer)
        self.assert_own_lists(answer, handed_in)
        for moment in telling_moments({"sheet": sheet, "other": other}):
            expected = referring_nowhere(holding(sheet, moment), columns, holding(other, moment), others)
            self.assertEqual(holding(answer, moment), expected, (told, moment))
        return answer

    def assert_broken(self, columns, others, expected, sheet=SHEET, other=OTHER):
        self.assertEqual(self.assert_right(sheet, columns, other, others), expected, (columns, others))


class TestReferenceBroken(ReferenceTest):
    def test_one_column(self):
        self.assert_broken([1], [0], [
            ((1, 4, 0), [(None, 3)]), ((1, 6, 0), [(7, None)]), ((2, 4, 7), [(0, 3)]), ((3, 4, 7), [(None, -2)]),
        ])
        self.assert_broken([1], [1], [
            ((1, 4, 0), [(None, 3), (5, 8)]), ((1, 6, 0), [(7, None)]),
            ((2, 4, 7), [(0, None)]), ((3, 4, 7), [(None, -2), (9, 12)]),
        ])

    def test_several_columns(self):
        self.assert_broken([2, 0], [0, 1], [
            ((1, 4, 0), [(5, 6), (7, 8)]), ((1, 5, 0), [(4, 6)]), ((1, 6, 0), [(7, None)]), SHEET[3], SHEET[4],
        ])
        self.assert_broken([1, 0], [0, 1], [
            ((1, 4, 0), [(None, 3), (6, 8)]), SHEET[1], SHEET[2], ((2, 4, 7), [(0, 5)]), SHEET[4],
        ])
        # One by one in their order: 4 beside 1 is not 1 beside 4.
        self.assert_broken([0, 1], [0, 1], SHEET)
        self.assert_broken([0, 1], [1, 0], [
            ((1, 4, 0), [(None, 3), (6, 8)]), SHEET[1], SHEET[2], ((2, 4, 7), [(0, 5)]), SHEET[4],
        ])

    def test_one_column_twice(self):
        self.assert_broken([1, 1], [0, 1], [
            ((1, 4, 0), [(None, 3), (5, 8)]), ((1, 6, 0), [(7, None)]), SHEET[3], SHEET[4],
        ])
        self.assert_broken([0, 1], [0, 0], [((1, 2), [(0, 5)])], [((1, 2), [(0, 5)])], [((1, 2), [(0, 5)])])
        self.assert_broken([0, 0], [0, 0], [], [((1, 2), [(0, 5)])], [((1, 2), [(0, 5)])])

    def test_of_the_sheet_itself(self):
        staff = [((1, 2), [(0, 9)]), ((2, 3), [(0, 5), (6, 9)]), ((3, 3), [(None, 7)]), ((4, 4), [(5, None)])]
        self.assert_broken([1], [0], [((1, 2), [(5, 6)]), ((2, 3), [(7, 9)])], staff, staff)
        self.assertEqual(
            reference_broken(staff, [1], staff, [0]), [((1, 2), [(5, 6)]), ((2, 3), [(7, 9)])],
        )
        for columns in ([0], [1], [0, 1], [1, 0, 1]):
            self.assertEqual(reference_broken(staff, columns, staff, columns), [])

    def test_one_row_after_another_is_referred_to(self):
        other = [((7, 1), [(None, 0)]), ((7, 2), [(0, 4)]), ((7, 3), [(4, None)])]
        self.assert_broken([0], [0], [], [((7,), [(None, None)])], other)
        other = [((7, 1), [(None, 0)]), ((7, 2), [(1, 4)]), ((7, 3), [(4, None)])]
        self.assert_broken([0], [0], [((7,), [(0, 1)])], [((7,), [(None, None)])], other)

    def test_rows_of_unlike_widths(self):
        one = [((1,), [(0, 3)]), ((2,), [(0, 3)])]
        self.assert_broken([0], [4], one[1:], one, [((0, 0, 0, 0, 1), [(0, 9)])])

    def test_sheets_without_rows(self):
        self.assert_broken([7], [0], [], [], OTHER)
        self.assert_broken([7, 9], [8, 8], [], [], [])
        self.assert_broken([0], [7], SHEET, SHEET, [])
        self.assert_broken([0, 0], [7, 9], SHEET, SHEET, [])

    def test_any_two_spans(self):
        for one, other in product(ALL_SPANS[1:], repeat=2):
            left = moments_in(one) - moments_in(other)
            expected = [((5, 0), span_of(left))] if left else []
            self.assertEqual(reference_broken([((5, 0), one)], [0], [((1, 5), other)], [1]), expected)
            self.assertEqual(reference_broken([((5, 0), one)], [0], [((1, 5), other)], [0]), [((5, 0), one)])

    def test_any_two_spans_referred_to(self):
        for one, other, third in product(ALL_SPANS[1::2], repeat=3):
            left = moments_in(one) - moments_in(other) - moments_in(third)
            expected = [((5,), span_of(left))] if left else []
            self.assertEqual(reference_broken([((5,), one)], [0], [((5, 0), other), ((5, 1), third)], [0]), expected)

    def test_many_sheets(self):
        asker = Asker(22)
        for turn in range(300):
            sheets = asker.sheets()
            one, other = asker.chance.choice([("one", "three"), ("two", "pair"), ("three", "three"), ("pair", "one")])
            count = asker.chance.randrange(1, 4)
            columns, others = asker.numbers(count, WIDTHS[one]), asker.numbers(count, WIDTHS[other])
            self.assert_right(sheets[one], columns, sheets[other], others)

    def test_far_and_many(self):
        one, other = [((FAR,), [(None, FAR)])], [((FAR, 0), [(-FAR, FAR - 1)])]
        self.assert_broken([0], [0], [((FAR,), [(None, -FAR), (FAR - 1, FAR)])], one, other)
        one = [((cell, cell % 4), spread(9, 5, cell)) for cell in range(30)]
        other = sorted(((cell % 3, cell), spread(7, 4, cell)) for cell in range(30))
        self.assert_right(one, [1], other, [0])


class TestNothingIsShared(SheetTest):
    DEEDS = [
        lambda sheet, other: key_broken(sheet, [0]),
        lambda sheet, other: key_broken(sheet, [2, 0]),
        lambda sheet, other: reference_broken(sheet, [1], other, [0]),
        lambda sheet, other: reference_broken(sheet, [0, 1], other, [0, 1]),
        lambda sheet, other: reference_broken(sheet, [0], [], [0]),
    ]

    def test_one_list_handed_in_for_several_rows(self):
        span = [(0, 5)]
        sheet = [((1, 4, 0), span), ((1, 5, 0), span), ((2, 4, 0), span), ((2, 5, 0), span)]
        for deed in self.DEEDS:
            self.assert_own_lists(deed(sheet, [((9, 9), span)]), (sheet, span))

    def test_changing_what_was_given_changes_nothing(self):
        for deed in self.DEEDS:
            sheet, other = deepcopy((SHEET, OTHER))
            answer = deed(sheet, other)
            kept = deepcopy(answer)
            for each in lists_within(answer):
                each.append("more")
            self.assertEqual((sheet, other), (SHEET, OTHER))
            self.assertEqual(deed(sheet, other), kept)

    def test_what_was_given_stays(self):
        for deed in self.DEEDS:
            sheet, other = deepcopy((SHEET, OTHER))
            answer = deed(sheet, other)
            kept = deepcopy(answer)
            for each in lists_within((sheet, other)):
                each.clear()
            self.assertEqual(answer, kept)


if __name__ == "__main__":
    unittest.main()
