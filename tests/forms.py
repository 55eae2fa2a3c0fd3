"""What the tests of sheets share: the one form of a sheet, and lists that nobody else holds."""

import unittest

from asking import lists_within


class SheetTest(unittest.TestCase):
    def assert_form(self, sheet):
        """Rows in order, each once, all with as many cells, no span empty, spans in their one form."""
        self.assertIs(type(sheet), list)
        rows = [row for row, span in sheet]
        self.assertEqual(rows, sorted(set(rows)))
        self.assertLessEqual(len({len(row) for row in rows}), 1)
        for entry in sheet:
            self.assertIs(type(entry), tuple)
            self.assertIs(type(entry[0]), tuple)
            for cell in entry[0]:
                self.assertIs(type(cell), int)
            self.assert_span(entry[1])

    def assert_span(self, span):
        self.assertIs(type(span), list)
        self.assertNotEqual(span, [])
        for stretch in span:
            self.assertIs(type(stretch), tuple)
            start, end = stretch
            self.assertTrue(start is None or end is None or start < end, span)
        for one, other in zip(span, span[1:]):
            self.assertIsNotNone(one[1], span)
            self.assertIsNotNone(other[0], span)
            self.assertLess(one[1], other[0], span)

    def assert_own_lists(self, answer, handed_in):
        """No list in the answer stands there twice or was handed in."""
        given = [id(each) for each in lists_within(answer)]
        self.assertEqual(len(given), len(set(given)))
        self.assertFalse({id(each) for each in lists_within(handed_in)} & set(given))
