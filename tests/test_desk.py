import unittest
from itertools import product

from desks import A, B, NO_NUMBERS, ONE, SHOWN, SIXTY, DeskTest
from moments import FAR
from whenrows.desk import Desk
from whenrows.errors import NoColumn, NoName, NoStretch, NoText, NoWidth


class TestSheet(DeskTest):
    def test_a_name_stands_for_the_sheet_of_the_facts(self):
        self.assert_shown("a", A)
        self.assert_answer("sheet c 2 @ 5 9; 1 @ 0 5; 2 @ 4 6; 1 @ 5 7; 2 @ 5 9", "ok")
        self.assert_shown("c", "1 @ 0 7; 2 @ 4 9")

    def test_from_then_on(self):
        self.assert_answer("sheet a 7 @ 0 1", "ok")
        self.assert_shown("a", "7 @ 0 1")
        self.assert_answer("sheet a 1 2 3 4 5 @ * *", "ok")
        self.assert_shown("a", "1 2 3 4 5 @ * *")
        self.assert_shown("b", B)

    def test_no_facts(self):
        self.assert_shown("none", "")
        self.assert_answer("sheet a ", "ok")
        self.assert_shown("a", "")

    def test_names_of_one_to_eight_letters(self):
        for name in ["x", "z", "abcdefgh", "zzzzzzzz", "sheet", "show", "ok", "at"]:
            self.assert_answer(f"sheet {name} {ONE}", "ok")
            self.assert_shown(name, ONE)

    def test_sixty_facts(self):
        facts = "; ".join(f"{place} @ 0 1" for place in range(10, 70))
        self.assert_answer(f"sheet c {facts}", "ok")
        self.assert_shown("c", facts)
        self.assert_refused(NoText, f"sheet d {facts}; 99 @ 0 1")
        self.assert_refused(NoName, "show d")

    def test_no_text(self):
        for facts in [
            " ", "1", "@ 0 5", "1 @ 5 5", "1 @ 6 5", "1 @ 0 5; 1 2 @ 0 5", "1 2 3 4 5 6 @ 0 5", " 1 @ 0 5", "1 @ 0 5 ",
            "1  2 @ 0 5", "01 @ 0 5", "-0 @ 0 5", "1 @ 0 5;", "1 @ 0 5\n", "x",
        ]:
            self.assert_refused(NoText, f"sheet a {facts}")
            self.assert_refused(NoText, f"sheet new {facts}")
        self.assert_refused(NoName, "show new")


class TestPut(DeskTest):
    def test_a_row_is_put(self):
        self.assert_answer("put a 1 4 @ 3 5", "ok")
        self.assert_shown("a", "1 4 @ * 8; 1 6 @ 2 6; 2 4 @ 0 *")
        self.assert_answer("put a 0 9 @ -5 *", "ok")
        self.assert_shown("a", "0 9 @ -5 *; 1 4 @ * 8; 1 6 @ 2 6; 2 4 @ 0 *")
        self.assert_shown("b", B)

    def test_into_a_sheet_without_rows(self):
        self.assert_answer("put none 1 2 3 4 5 @ * *", "ok")
        self.assert_shown("none", "1 2 3 4 5 @ * *")

    def test_no_text(self):
        for fact in [
            "", " ", "x", "1 4", "1 4 @ 5 5", "1 4 @ 6 5", "1 4 @ 0 5; 1 4 @ 7 9", "1 4 @ 0 5; 1 4 @ 0 5",
            "1 4 @ 0 5;", "1 4 @ 0 5 ", " 1 4 @ 0 5", "@ 0 5", "1 1 1 1 1 1 @ 0 5", "1 04 @ 0 5",
        ]:
            for name in SHOWN:
                self.assert_refused(NoText, f"put {name} {fact}")

    def test_no_width(self):
        for fact in ["1 @ 0 5", "1 2 3 @ * *", "1 2 3 4 5 @ 0 *"]:
            self.assert_refused(NoWidth, f"put a {fact}")
        self.assert_refused(NoWidth, "put one 5 5 @ 0 4")

    def test_a_sheet_whose_rows_are_all_cut_takes_any_width(self):
        self.assert_answer("cut one 0 5 * *", "ok")
        self.assert_answer("put one 1 2 @ 0 5", "ok")
        self.assert_shown("one", "1 2 @ 0 5")


class TestCut(DeskTest):
    def test_rows_are_cut(self):
        self.assert_answer("cut a 1 4 2 6", "ok")
        self.assert_shown("a", "1 4 @ * 2; 1 4 @ 6 8; 1 6 @ 2 6; 2 4 @ 0 2; 2 4 @ 6 *")
        self.assert_answer("cut a 0 1 * 7", "ok")
        self.assert_shown("a", "1 4 @ 7 8; 2 4 @ 0 2; 2 4 @ 6 *")
        self.assert_answer("cut a 0 2 1 *", "ok")
        self.assert_shown("a", "1 4 @ 7 8; 2 4 @ 0 1")
        self.assert_answer("cut a 1 4 * *", "ok")
        self.assert_shown("a", "")
        self.assert_shown("b", B)

    def test_no_row_meets_it(self):
        for row in ["cut a 1 99 * *", f"cut a 0 -{SIXTY} * *", "cut a 0 1 20 30", "cut a 1 6 -5 2"]:
            self.assert_answer(row, "ok")
            self.assert_shown("a", A)

    def test_no_text(self):
        for word in NO_NUMBERS:
            for row in [f"cut a {word} 4 0 5", f"cut a 0 {word} 0 5", f"cut a 0 4 {word} 5", f"cut a 0 4 * {word}"]:
                self.assert_refused(NoText, row)
        self.assert_refused(NoText, "cut a * 4 0 5")
        self.assert_refused(NoText, "cut a 0 * 0 5")

    def test_no_stretch(self):
        for start, end in [(0, 0), (1, 0), (-1, -2), (FAR, -FAR), (FAR, FAR)]:
            self.assert_refused(NoStretch, f"cut a 0 1 {start} {end}")
            self.assert_refused(NoStretch, f"cut a 0 99 {start} {end}")

    def test_no_column(self):
        for column in (2, 3, -1, -2, FAR, -FAR):
            self.assert_refused(NoColumn, f"cut a {column} 1 0 5")
        for column in (0, 1, -1, FAR):
            self.assert_refused(NoColumn, f"cut none {column} 1 0 5")
        self.assert_refused(NoColumn, "cut one 1 5 * *")


class TestAt(DeskTest):
    def test_the_rows_that_hold(self):
        for moment, rows in [
            (-FAR, "1 4"), (-1, "1 4"), (0, "1 4; 2 4"), (2, "1 4; 1 6; 2 4"), (3, "1 6; 2 4"), (5, "1 4; 1 6; 2 4"),
            (6, "1 4; 2 4"), (8, "2 4"), (FAR, "2 4"),
        ]:
            self.assert_answer(f"at a {moment}", rows)

    def test_none_hold(self):
        for row in ["at one -1", "at one 4", "at none 0", f"at none {SIXTY}"]:
            self.assert_answer(row, "")

    def test_cells_below_nought_and_of_sixty_figures(self):
        self.assert_answer(f"sheet c -{SIXTY} 0 -5 @ * *", "ok")
        self.assert_answer("at c -7", f"-{SIXTY} 0 -5")

    def test_no_text(self):
        for word in NO_NUMBERS + ["*"]:
            self.assert_refused(NoText, f"at a {word}")


class TestOfTwoSheets(DeskTest):
    def test_each_kind(self):
        for kind, shown in [
            ("union", "1 4 @ * 8; 1 6 @ 2 6; 2 4 @ * *; 3 0 @ 7 9"),
            ("common", "1 4 @ 2 3; 1 4 @ 5 6; 2 4 @ 0 *"),
            ("less", "1 4 @ * 2; 1 4 @ 6 8; 1 6 @ 2 6"),
            ("join", "1 4 1 4 @ 2 3; 1 4 1 4 @ 5 6; 1 4 2 4 @ * 3; 1 4 2 4 @ 5 8; 1 4 3 0 @ 7 8; 1 6 1 4 @ 2 6; "
                     "1 6 2 4 @ 2 6; 2 4 1 4 @ 2 6; 2 4 2 4 @ 0 *; 2 4 3 0 @ 7 9"),
        ]:
            self.assert_answer(f"{kind} new a b", "ok")
            self.assert_shown("new", shown)
            self.assert_all_as_at_first()
        self.assert_answer("less new b a", "ok")
        self.assert_shown("new", "1 4 @ 3 5; 2 4 @ * 0; 3 0 @ 7 9")

    def test_new_that_is_a_or_b(self):
        for names, name in [("a a b", "a"), ("b a b", "b")]:
            self.setUp()
            self.assert_answer(f"less {names}", "ok")
            self.assert_shown(name, "1 4 @ * 2; 1 4 @ 6 8; 1 6 @ 2 6")
            other = "b" if name == "a" else "a"
            self.assert_shown(other, SHOWN[other])
        self.assert_answer("union a a a", "ok")
        self.assert_shown("a", A)
        self.assert_answer("join one one one", "ok")
        self.assert_shown("one", "5 5 @ 0 4")
        self.assert_answer("less a a a", "ok")
        self.assert_shown("a", "")

    def test_sheets_without_rows(self):
        for kind, with_none, none_with in [
            ("union", A, A), ("common", "", ""), ("less", A, ""), ("join", "", ""),
        ]:
            self.assert_answer(f"{kind} new a none", "ok")
            self.assert_shown("new", with_none)
            self.assert_answer(f"{kind} new none a", "ok")
            self.assert_shown("new", none_with)
            self.assert_answer(f"{kind} new none none", "ok")
            self.assert_shown("new", "")

    def test_no_width(self):
        for kind, names in product(["union", "common", "less"], ["a one", "one a", "one b"]):
            for new in ("a", "one", "new"):
                self.assert_refused(NoWidth, f"{kind} {new} {names}")
        self.assert_refused(NoName, "show new")

    def test_join_of_unlike_counts(self):
        self.assert_answer("join new one b", "ok")
        self.assert_shown("new", "5 1 4 @ 2 4; 5 2 4 @ 0 4")
        self.assert_answer("join new new new", "ok")
        self.assert_shown("new", "5 1 4 5 1 4 @ 2 4; 5 1 4 5 2 4 @ 2 4; 5 2 4 5 1 4 @ 2 4; 5 2 4 5 2 4 @ 0 4")

    def test_what_new_stands_for_stays(self):
        self.assert_answer("union new a none", "ok")
        self.assert_answer("put new 9 9 @ 0 1", "ok")
        self.assert_shown("a", A)
        self.assert_answer("cut a 1 4 * *", "ok")
        self.assert_answer("sheet a ", "ok")
        self.assert_shown("new", f"{A}; 9 9 @ 0 1")


class TestKey(DeskTest):
    def test_kept(self):
        self.assert_answer("key one 0", "kept")
        self.assert_answer("key b 0", "kept")

    def test_what_breaks_it(self):
        self.assert_answer("key a 0", "1 @ 2 3; 1 @ 5 6")
        self.assert_answer("key a 1", "4 @ 0 3; 4 @ 5 8")
        self.assert_answer("key b 1", "4 @ 2 6")
        self.assert_answer("sheet c 1 1 @ * *; 1 2 @ * *; -2 0 @ * 5; -2 1 @ 4 *", "ok")
        self.assert_answer("key c 0", "-2 @ 4 5; 1 @ * *")
        self.assert_all_as_at_first()

    def test_no_text(self):
        for word in NO_NUMBERS + ["*"]:
            self.assert_refused(NoText, f"key a {word}")

    def test_no_column(self):
        for column in (2, 3, -1, -2, FAR, -FAR):
            self.assert_refused(NoColumn, f"key a {column}")
        self.assert_refused(NoColumn, "key one 1")
        for column in (0, 1, -1):
            self.assert_refused(NoColumn, f"key none {column}")


class TestTwoDesks(DeskTest):
    def test_beside_one_another(self):
        other = Desk()
        with self.assertRaises(NoName):
            other.say("show a")
        self.assertEqual(other.say("sheet a 9 @ 0 1"), "ok")
        self.assert_shown("a", A)
        self.assertEqual(other.say("put a 8 @ 0 1"), "ok")
        self.assert_answer("cut a 0 1 * *", "ok")
        self.assertEqual(other.say("show a"), "8 @ 0 1; 9 @ 0 1")
        self.assert_shown("a", "2 4 @ 0 *")
        self.assertEqual(Desk().say("sheet b "), "ok")
        self.assert_shown("b", B)
        with self.assertRaises(NoName):
            other.say("show b")

    def test_the_same_rows_are_answered_alike(self):
        rows = [
            "sheet c 1 @ 0 5", "put c 2 @ * 3", "union d c c", "cut d 0 1 2 3", "show d", "at d 0", "key d 0",
            "less e c d", "show e",
        ]
        one, other = Desk(), Desk()
        first = [one.say(row) for row in rows]
        self.assertEqual([other.say(row) for row in rows], first)
        self.assertEqual(first[4:], ["1 @ 0 2; 1 @ 3 5; 2 @ * 3", "1; 2", "kept", "ok", "1 @ 2 3"])


if __name__ == "__main__":
    unittest.main()
