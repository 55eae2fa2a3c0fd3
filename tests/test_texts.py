import unittest
from copy import deepcopy
from itertools import product

from asking import Asker
from moments import ALL_SPANS, FAR
from whenrows.errors import NoText
from whenrows.sheets import sheet_of
from whenrows.texts import read_facts, show_sheet

SIXTY = "9" * 60
GOOD = "1 2 @ 0 5"
# What a number must not be told as.
NO_NUMBERS = [
    "", "-", "--1", "-0", "+0", "+1", "00", "01", "-01", "007", "0" * 60, "1-", "1.0", "1e3", "1_0", "0x1", "1,", ",",
    "1;", ";", "a", "None", "**", "1*", "1@", "1\t", "\t1", "1\n", "\n", "- 1", "1" + "0" * 60, "-1" + "0" * 60,
    "\u0661", "\u00b2", "\u2212" + "1", "(1)", "'1'", "True",
]


class TextTest(unittest.TestCase):
    def assert_told(self, text, facts):
        answer = read_facts(text)
        self.assertIs(type(answer), list)
        for fact in answer:
            self.assertIs(type(fact), tuple)
            self.assertIs(type(fact[0]), tuple)
            for cell in fact[0]:
                self.assertIs(type(cell), int)
        self.assertEqual(answer, facts, text)

    def assert_refused(self, text):
        with self.assertRaises(NoText, msg=repr(text)) as caught:
            read_facts(text)
        self.assertIs(type(caught.exception), NoText, text)


class TestReadFacts(TextTest):
    def test_no_signs(self):
        self.assert_told("", [])

    def test_one_fact(self):
        self.assert_told("1 @ 0 5", [((1,), 0, 5)])
        self.assert_told("1 2 3 4 5 @ 0 5", [((1, 2, 3, 4, 5), 0, 5)])
        self.assert_told("0 0 @ 10 205", [((0, 0), 10, 205)])

    def test_from_ever_and_for_ever(self):
        self.assert_told("7 @ * 5", [((7,), None, 5)])
        self.assert_told("7 @ 5 *", [((7,), 5, None)])
        self.assert_told("7 @ * *", [((7,), None, None)])
        self.assert_told("7 @ 0 *; 8 @ * 0", [((7,), 0, None), ((8,), None, 0)])

    def test_below_nought(self):
        self.assert_told("-7 @ -9 -1", [((-7,), -9, -1)])
        self.assert_told("-10 0 -1 @ -100 0", [((-10, 0, -1), -100, 0)])

    def test_sixty_figures(self):
        self.assert_told(f"{SIXTY} @ 0 {SIXTY}", [((FAR,), 0, FAR)])
        self.assert_told(f"-{SIXTY} {SIXTY} @ -{SIXTY} {SIXTY}", [((-FAR, FAR), -FAR, FAR)])
        self.assert_told("1" + "0" * 59 + " @ * *", [((10 ** 59,), None, None)])

    def test_told_as_they_stand(self):
        self.assert_told("2 @ 0 5; 1 @ 0 5", [((2,), 0, 5), ((1,), 0, 5)])
        self.assert_told("1 @ 3 5; 1 @ 0 4; 1 @ 3 5", [((1,), 3, 5), ((1,), 0, 4), ((1,), 3, 5)])
        self.assert_told("1 @ 0 5; 1 @ 5 9", [((1,), 0, 5), ((1,), 5, 9)])

    def test_sixty_facts(self):
        facts = [((-place, 7), place, place + 1) for place in range(60)]
        text = "; ".join(f"{-place} 7 @ {place} {place + 1}" for place in range(60))
        self.assert_told(text, facts)
        self.assert_told("; ".join(["1 @ * *"] * 60), [((1,), None, None)] * 60)

    def test_each_answer_is_a_new_list(self):
        for text, facts in [("", []), ("1 @ 0 5", [((1,), 0, 5)])]:
            first = read_facts(text)
            first.append("more")
            self.assertEqual(read_facts(text), facts)
            second = read_facts(text)
            read_facts("2 @ 0 5")
            self.assertEqual(second, facts)


class TestRefusals(TextTest):
    def assert_no_fact(self, fact):
        """Refused alone, and among facts."""
        for text in (fact, f"{fact}; {GOOD}", f"{GOOD}; {fact}", f"{GOOD}; {fact}; {GOOD}"):
            self.assert_refused(text)

    def test_cells_that_are_no_numbers(self):
        for word in NO_NUMBERS:
            self.assert_refused(f"{word} @ 0 5")
            self.assert_no_fact(f"{word} 2 @ 0 5")
            self.assert_no_fact(f"1 {word} @ 0 5")
        self.assert_refused("* @ 0 5")
        self.assert_no_fact("1 * @ 0 5")
        self.assert_no_fact("1 @ @ 0 5")

    def test_bounds_that_are_no_numbers(self):
        for word in NO_NUMBERS:
            self.assert_no_fact(f"1 2 @ {word} 5")
            self.assert_no_fact(f"1 2 @ * {word}")
            self.assert_no_fact(f"1 2 @ -7 {word}")
        self.assert_no_fact("1 2 @ @ 5")
        self.assert_no_fact("1 2 @ 0 @")

    def test_start_not_below_end(self):
        for start, end in [(0, 0), (1, 0), (-1, -1), (-1, -2), (5, -5), (10, 9), (FAR, FAR), (FAR, -FAR)]:
            self.assert_no_fact(f"1 2 @ {start} {end}")

    def test_spaces(self):
        for text in [
            " 1 2 @ 0 5", "1 2 @ 0 5 ", "1  2 @ 0 5", "1 2  @ 0 5", "1 2 @  0 5", "1 2 @ 0  5", " ", "  ",
            "1 2 @0 5", "1 2@ 0 5", "1 2@0 5", "1\t2 @ 0 5", "1 2 @\t0 5", "\t", "\n", "1 2 @ 0 5\n", "\n1 2 @ 0 5",
            "1 2 @ 0 5\t", "1 2\n@ 0 5",
        ]:
            self.assert_no_fact(text)

    def test_semicolons(self):
        for text in [
            ";", "; ", " ;", "; ; ", "; 1 @ 0 5", "1 @ 0 5;", "1 @ 0 5; ", "1 @ 0 5;2 @ 0 5", "1 @ 0 5 ; 2 @ 0 5",
            "1 @ 0 5;  2 @ 0 5", "1 @ 0 5; ; 2 @ 0 5", "1 @ 0 5;\n2 @ 0 5", "1 @ 0 5;\t2 @ 0 5", "1 @ 0 5, 2 @ 0 5",
            "1 @ 0 5;; 2 @ 0 5", "1 @ 0 5 2 @ 0 5",
        ]:
            self.assert_refused(text)

    def test_words_that_are_missing_or_too_many(self):
        for text in [
            "1", "1 2", "1 2 3 4 5", "@", "1 @", "1 @ 0", "@ 0", "1 0 5", "1 @ 0 5 6", "1 @ 0 5 *", "1 @ 0 @ 5",
            "0 5 @ 1 @ 0", "1 @ 2 @ 0 5", "1 2 0 5 @", "@ 1 0 5", "1 2 # 0 5", "1 2 @@ 0 5", "facts",
        ]:
            self.assert_no_fact(text)

    def test_no_cells(self):
        self.assert_no_fact("@ 0 5")
        self.assert_no_fact(" @ 0 5")
        self.assert_refused("@ 0 5; @ 0 5")

    def test_more_than_five_cells(self):
        for count in (6, 7, 10, 60):
            cells = " ".join(["1"] * count)
            self.assert_refused(f"{cells} @ 0 5")
            self.assert_refused(f"{cells} @ 0 5; {cells} @ 7 9")

    def test_cells_of_unlike_counts(self):
        for text in ["1 @ 0 5; 1 2 @ 0 5", "1 2 @ 0 5; 1 @ 0 5", "1 @ 0 5; 2 @ 0 5; 1 2 3 4 5 @ 0 5"]:
            self.assert_refused(text)

    def test_more_than_sixty_facts(self):
        for count in (61, 62, 120):
            self.assert_refused("; ".join(["1 @ * *"] * count))
            self.assert_refused("; ".join(f"{place} @ 0 1" for place in range(count)))

    def test_more_than_sixty_figures(self):
        for word in ("1" + "0" * 60, "9" * 61, "9" * 100, "9" * 5000):
            for number in (word, "-" + word):
                self.assert_refused(f"{number} @ 0 5")
            self.assert_refused(f"1 @ 0 {word}")
            self.assert_refused(f"1 @ -{word} 0")

    def test_what_is_no_text(self):
        for value in (None, 0, 1, True, [], ["1 @ 0 5"], ("1 @ 0 5",), {}, b"", b"1 @ 0 5", [((1,), 0, 5)], 1.5):
            self.assert_refused(value)


class TestShowSheet(TextTest):
    SHEET = [((-1, 4), [(None, -3), (5, 8)]), ((1, 6), [(2, None)]), ((10, 0), [(None, None)])]

    def assert_shown(self, sheet, text):
        handed_in = deepcopy(sheet)
        answer = show_sheet(handed_in)
        self.assertIs(type(answer), str)
        self.assertEqual(answer, text)
        self.assertEqual(handed_in, sheet)

    def test_row_by_row_and_stretch_by_stretch(self):
        self.assert_shown([((7,), [(0, 5)])], "7 @ 0 5")
        self.assert_shown([((7,), [(0, 5), (6, 9)])], "7 @ 0 5; 7 @ 6 9")
        self.assert_shown(self.SHEET, "-1 4 @ * -3; -1 4 @ 5 8; 1 6 @ 2 *; 10 0 @ * *")
        self.assert_shown([((1, 2, 3, 4, 5), [(-10, 0)])], "1 2 3 4 5 @ -10 0")

    def test_without_rows(self):
        self.assert_shown([], "")

    def test_sixty_figures(self):
        self.assert_shown([((-FAR, FAR), [(-FAR, FAR)])], f"-{SIXTY} {SIXTY} @ -{SIXTY} {SIXTY}")

    def test_wide_rows_and_many_facts(self):
        # Answers of questions have up to ten cells, and more than sixty facts.
        row = tuple(range(10))
        span = [(3 * turn, 3 * turn + 1) for turn in range(70)]
        cells = "0 1 2 3 4 5 6 7 8 9"
        self.assert_shown([(row, span)], "; ".join(f"{cells} @ {start} {end}" for start, end in span))

    def assert_read_again(self, sheet):
        facts = [(row, start, end) for row, span in sheet for start, end in span]
        self.assertEqual(read_facts(show_sheet(sheet)), facts)
        self.assertEqual(sheet_of(read_facts(show_sheet(sheet))), sheet)

    def test_read_again(self):
        self.assert_read_again([])
        self.assert_read_again(self.SHEET)
        for one, other in product(ALL_SPANS[1:], repeat=2):
            self.assert_read_again([((-1, 0), one), ((0, 0), other)])
        asker = Asker(31)
        for turn in range(100):
            for sheet in asker.sheets().values():
                self.assert_read_again(sheet)

    def test_facts_shown_and_read(self):
        asker = Asker(32)
        for turn in range(100):
            width = asker.chance.randrange(1, 6)
            facts = [
                (tuple(asker.numbers(width, 10 ** 6)), *asker.chance.choice(asker.span()))
                for place in range(asker.chance.randrange(61))
            ]
            sheets = [[(row, [(start, end)])] for row, start, end in facts]
            self.assert_told("; ".join(show_sheet(sheet) for sheet in sheets), facts)


if __name__ == "__main__":
    unittest.main()
