import unittest
from copy import deepcopy
from itertools import permutations, product

from moments import FAR, MOMENTS, STRETCHES, moments_in, span_of
from whenrows.errors import NoStretch, NoWidth
from whenrows.sheets import cut_at, sheet_bounds, sheet_of


class TestSheetOf(unittest.TestCase):
    def assert_sheet(self, facts, sheet):
        for order in permutations(facts):
            answer = sheet_of(list(order))
            self.assert_form(answer)
            self.assertEqual(answer, sheet, order)

    def assert_form(self, sheet):
        self.assertIs(type(sheet), list)
        for entry in sheet:
            self.assertIs(type(entry), tuple)
            row, span = entry
            self.assertIs(type(row), tuple)
            self.assertIs(type(span), list)
            self.assertNotEqual(span, [])
            for stretch in span:
                self.assertIs(type(stretch), tuple)
        rows = [row for row, span in sheet]
        self.assertEqual(rows, sorted(set(rows)))

    def test_no_facts(self):
        self.assert_sheet([], [])

    def test_one_fact(self):
        self.assert_sheet([((7,), 0, 1)], [((7,), [(0, 1)])])
        self.assert_sheet([((1, 2, 3, 4, 5), None, None)], [((1, 2, 3, 4, 5), [(None, None)])])

    def test_told_twice_overlapping_touching(self):
        self.assert_sheet([((1, 2), 0, 5), ((1, 2), 0, 5)], [((1, 2), [(0, 5)])])
        self.assert_sheet([((1, 2), 0, 5), ((1, 2), 3, 8)], [((1, 2), [(0, 8)])])
        self.assert_sheet([((1, 2), 0, 5), ((1, 2), 5, 8)], [((1, 2), [(0, 8)])])
        self.assert_sheet([((1, 2), 0, 5), ((1, 2), 6, 8)], [((1, 2), [(0, 5), (6, 8)])])
        self.assert_sheet([((1, 2), None, 5), ((1, 2), 5, None)], [((1, 2), [(None, None)])])

    def test_unlike_rows_are_kept_apart(self):
        self.assert_sheet(
            [((1, 2), 0, 5), ((2, 1), 3, 8), ((1, 1), 5, 9), ((1, 2), 7, None)],
            [((1, 1), [(5, 9)]), ((1, 2), [(0, 5), (7, None)]), ((2, 1), [(3, 8)])],
        )

    def test_rows_in_order(self):
        self.assert_sheet(
            [((-1, 9), 0, 1), ((0, -FAR), 0, 1), ((0, 0), 0, 1), ((FAR, -3), 0, 1), ((-FAR, 3), 0, 1)],
            [
                ((-FAR, 3), [(0, 1)]), ((-1, 9), [(0, 1)]), ((0, -FAR), [(0, 1)]),
                ((0, 0), [(0, 1)]), ((FAR, -3), [(0, 1)]),
            ],
        )
        # In the order of the numbers, not of their texts.
        self.assert_sheet([((10,), 0, 1), ((9,), 0, 1)], [((9,), [(0, 1)]), ((10,), [(0, 1)])])

    def test_all_small_lists_of_facts(self):
        for one, other, third in product(STRETCHES, repeat=3):
            facts = [((2,), *one), ((1,), *other), ((2,), *third)]
            sheet = [((1,), [other]), ((2,), span_of(moments_in([one, third])))]
            self.assertEqual(sheet_of(facts), sheet, facts)

    def test_sixty_facts(self):
        facts = [((place % 30,), place, place + 1) for place in range(60)]
        sheet = [((cell,), [(cell, cell + 1), (cell + 30, cell + 31)]) for cell in range(30)]
        self.assertEqual(sheet_of(facts), sheet)
        self.assertEqual(sheet_of(facts[::-1]), sheet)


class TestRefusals(unittest.TestCase):
    def assert_refused(self, refusal, facts):
        for order in permutations(facts):
            before = deepcopy(order)
            handed_in = list(order)
            with self.assertRaises(refusal) as caught:
                sheet_of(handed_in)
            self.assertIs(type(caught.exception), refusal)
            self.assertEqual(handed_in, list(before))

    def test_start_not_below_end(self):
        for start, end in [(0, 0), (1, 0), (-1, -1), (-1, -2), (5, -5), (FAR, FAR), (FAR, -FAR), (FAR, FAR - 1)]:
            self.assert_refused(NoStretch, [((1,), start, end)])
            self.assert_refused(NoStretch, [((1,), start, end), ((2,), 0, 1), ((1,), None, None)])

    def test_open_stretches_are_not_refused(self):
        for start, end in [(None, -FAR), (FAR, None), (None, 0), (0, None), (None, None), (FAR - 1, FAR)]:
            self.assertEqual(sheet_of([((1,), start, end)]), [((1,), [(start, end)])])

    def test_unlike_counts_of_cells(self):
        self.assert_refused(NoWidth, [((1,), 0, 1), ((1, 2), 0, 1)])
        self.assert_refused(NoWidth, [((1, 2), 0, 1), ((3, 4), 2, 5), ((5,), None, None)])
        self.assert_refused(NoWidth, [((1, 2, 3, 4, 5), 0, 1), ((1, 2, 3, 4), 7, 8)])

    def test_no_stretch_comes_ahead_of_no_width(self):
        self.assert_refused(NoStretch, [((1,), 0, 1), ((1, 2), 0, 1), ((3,), 4, 4)])
        self.assert_refused(NoStretch, [((1,), 0, 1), ((1, 2), 1, 0)])


class TestCutAt(unittest.TestCase):
    SHEET = [
        ((-2, 5), [(None, -3), (0, 4)]),
        ((1, 1), [(4, 9)]),
        ((1, 2), [(None, None)]),
        ((3, 0), [(0, 1), (8, None)]),
    ]

    def test_at_starts_ends_between_and_far_away(self):
        first, second, third, fourth = [row for row, span in self.SHEET]
        for moment, rows in [
            (-FAR, [first, third]), (-4, [first, third]), (-3, [third]), (-1, [third]),
            (0, [first, third, fourth]), (1, [first, third]), (3, [first, third]),
            (4, [second, third]), (7, [second, third]), (8, [second, third, fourth]),
            (9, [third, fourth]), (FAR, [third, fourth]),
        ]:
            answer = cut_at(self.SHEET, moment)
            self.assertIs(type(answer), list)
            self.assertEqual(answer, rows, moment)

    def test_none_hold(self):
        self.assertEqual(cut_at([], 0), [])
        self.assertEqual(cut_at([((1,), [(1, 2)])], 0), [])
        self.assertEqual(cut_at([((1,), [(1, 2)])], 2), [])

    def test_agrees_with_the_facts(self):
        for one, other in product(STRETCHES, repeat=2):
            sheet = sheet_of([((1, 0), *other), ((0, 1), *one), ((1, 0), *one)])
            for moment in MOMENTS:
                rows = []
                if moment in moments_in([one]):
                    rows.append((0, 1))
                if moment in moments_in([one, other]):
                    rows.append((1, 0))
                self.assertEqual(cut_at(sheet, moment), rows, (one, other, moment))

    def test_sixty_figures(self):
        sheet = [((FAR,), [(-FAR, 1 - FAR), (FAR - 1, FAR)])]
        for moment in (-FAR, FAR - 1):
            self.assertEqual(cut_at(sheet, moment), [(FAR,)])
        for moment in (-FAR - 1, 1 - FAR, 0, FAR - 2, FAR):
            self.assertEqual(cut_at(sheet, moment), [])


class TestSheetBounds(unittest.TestCase):
    def test_rising_each_once(self):
        for sheet, bounds in [
            ([], []),
            ([((1,), [(None, None)])], []),
            ([((1,), [(None, 3)]), ((2,), [(3, None)])], [3]),
            ([((1,), [(5, 9)]), ((2,), [(-4, 0), (5, 7)])], [-4, 0, 5, 7, 9]),
            ([((1,), [(5, 9)]), ((2,), [(5, 9)])], [5, 9]),
            ([((1,), [(FAR - 1, FAR)]), ((2,), [(-FAR, 100)]), ((3,), [(20, 100)])], [-FAR, 20, 100, FAR - 1, FAR]),
        ]:
            answer = sheet_bounds(sheet)
            self.assertIs(type(answer), list)
            self.assertEqual(answer, bounds)


class TestNothingIsShared(unittest.TestCase):
    """What was handed in stays as it was, and what is given is the asker's own."""

    FACTS = [((2, 1), 5, 9), ((1, 7), None, 3), ((2, 1), 0, 6), ((1, 7), 12, None)]
    SHEET = [((1, 7), [(None, 3), (12, None)]), ((2, 1), [(0, 9)])]

    def test_sheet_of(self):
        facts = deepcopy(self.FACTS)
        answer = sheet_of(facts)
        self.assertEqual(facts, self.FACTS)
        self.assertEqual(answer, self.SHEET)
        answer[0][1].append((90, 91))
        answer[1][1].clear()
        answer.pop()
        self.assertEqual(facts, self.FACTS)
        self.assertEqual(sheet_of(facts), self.SHEET)

    def test_spans_of_unlike_rows_are_unlike_lists(self):
        answer = sheet_of([((1,), 0, 1), ((2,), 0, 1)])
        answer[0][1].append((5, 6))
        self.assertEqual(answer[1][1], [(0, 1)])

    def test_what_is_given_stays_when_the_facts_change(self):
        facts = deepcopy(self.FACTS)
        answer = sheet_of(facts)
        facts.clear()
        self.assertEqual(answer, self.SHEET)

    def test_cut_at_and_sheet_bounds(self):
        sheet = deepcopy(self.SHEET)
        for deed, expected in [
            (lambda: cut_at(sheet, 1), [(1, 7), (2, 1)]),
            (lambda: sheet_bounds(sheet), [0, 3, 9, 12]),
        ]:
            answer = deed()
            self.assertEqual(answer, expected)
            self.assertEqual(sheet, self.SHEET)
            answer.clear()
            self.assertEqual(sheet, self.SHEET)
            self.assertEqual(deed(), expected)


if __name__ == "__main__":
    unittest.main()
