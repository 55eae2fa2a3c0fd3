import unittest
from itertools import product

from desks import OF_TWO, ONE, SHOWN, DeskTest
from whenrows.desk import Desk
from whenrows.errors import NoColumn, NoName, NoRow, NoStretch, NoText, NoWidth

NO_NAMES = ["", "A", "aB", "a1", "1", "-", "a-b", "a_b", "abcdefghi", "a\n", "a\t", "\ta", "\u00e4", "*", "a;"]


class TestNoRow(DeskTest):
    def test_what_is_no_text(self):
        for row in (None, 0, 1, True, [], ["show a"], ("show", "a"), {}, b"show a", 1.5):
            self.assert_refused(NoRow, row)

    def test_first_words(self):
        for row in [
            "", " ", "  ", "a", "shows a", "Show a", "SHOW a", "sho a", " show a", "\tshow a", "show\ta", "show\na",
            "ok", "change a 0 1 2 * *", "pick a", "columns a 0", "group a 0", "drop a", "kept", "1 4 @ 0 5", "\n",
        ]:
            self.assert_refused(NoRow, row)

    def test_counts_of_words(self):
        words = ["a", "b", "0", "1", "2", "3", "4"]
        for kind, right in [
            ("cut", 5), ("at", 2), ("show", 1), ("union", 3), ("common", 3), ("less", 3), ("join", 3), ("key", 2),
        ]:
            for count in range(7):
                if count != right:
                    self.assert_refused(NoRow, " ".join([kind] + words[:count]))
                    self.assert_refused(NoRow, kind + " " * count)
        for row in ["sheet", "sheet a", "sheet ", "sheet none", "put", "put a", "put ", "put x"]:
            self.assert_refused(NoRow, row)

    def test_two_spaces_side_by_side(self):
        for row in [
            "show  a", "show a ", "show  ", "at  a 0", "at a  0", "at a 0 ", "key a 0 ", "key  a 0", "union new a b ",
            "union  new a b", "union new  a b", "cut a 0 1  2 5", "cut a 0 1 2 5 ", "cut  a 0 1 2 5",
        ]:
            self.assert_refused(NoRow, row)

    def test_words_without_signs(self):
        for row in [
            "show ", "at  0", "at  ", "key  0", "union  a b", "union new  b", "union new a ", "cut  0 1 2 5", "sheet  ",
            "sheet  1 @ 0 5", "put  1 4 @ 0 5", "join   ", "less   b",
        ]:
            self.assert_refused(NoName, row)
        for row in [
            "at a ", "key a ", "put a ", "put none ", "cut a  1 2 5", "cut a 0  2 5", "cut a 0 1  5", "cut a 0 1 2 ",
            "cut a    ", "sheet a  1 @ 0 5", "sheet new  ", "put a  1 4 @ 0 5",
        ]:
            self.assert_refused(NoText, row)


class TestNoName(DeskTest):
    def rows_with(self, name):
        """Rows in which one name is told, in each place, and all else is right."""
        yield from [f"put {name} 1 4 @ 0 5", f"cut {name} 0 1 0 5", f"at {name} 0", f"show {name}", f"key {name} 0"]
        for kind in OF_TWO:
            yield from [f"{kind} new {name} b", f"{kind} new a {name}", f"{kind} a {name} a", f"{kind} b b {name}"]

    def test_no_names(self):
        for name in NO_NAMES:
            for row in self.rows_with(name):
                self.assert_refused(NoName, row)
            self.assert_refused(NoName, f"sheet {name} {ONE}")
            self.assert_refused(NoName, f"sheet {name} ")
            for kind in OF_TWO:
                self.assert_refused(NoName, f"{kind} {name} a b")

    def test_names_by_which_no_sheet_stands(self):
        for name in ["x", "new", "aa", "abcdefgh", "sheet", "ok"]:
            for row in self.rows_with(name):
                self.assert_refused(NoName, row)

    def test_a_desk_has_none_at_first(self):
        self.desk = Desk()
        for name in SHOWN:
            with self.assertRaises(NoName):
                self.desk.say(f"show {name}")

    def test_new_that_does_not_stand_is_no_a_or_b(self):
        for kind in OF_TWO:
            self.assert_refused(NoName, f"{kind} new new b")
            self.assert_refused(NoName, f"{kind} new a new")


class TestOrder(DeskTest):
    """Of several refusals the one that comes first."""

    def test_no_row_ahead_of_all(self):
        for row in ["at A x y", "show A x", "key none 7 7", "cut X x 01 5 5 5", "union A one a b", "put A", "sheet A"]:
            self.assert_refused(NoRow, row)

    def test_no_name_ahead_of_all_but_no_row(self):
        for row in [
            "sheet A x", "sheet A ", "put A x", "put x ", "put x 1 @ 5 5", "cut x x 0 5 5", "cut A 9 0 5 5",
            "at x x", "at A *", "key x x", "key A 99",
            "union A a one", "union new x one", "union new one A", "less A x y", "common new a x",
        ]:
            self.assert_refused(NoName, row)

    def test_no_text_ahead_of_no_stretch_no_column_no_width(self):
        for row in [
            "put a 1 @ 5 5", "put a 1 @ 0 5; 1 @ 6 9", "put a 1 @ 0 x", "put one 1 2 @ 9 5",
            "sheet a 1 @ 5 5; 1 2 @ 0 5",
            "cut a x 1 5 5", "cut a 9 x 5 5", "cut none 0 01 0 5", "cut a 9 1 5 x", "cut a 9 1 x 5", "cut a 9 1 9 05",
            "key none x", "key none 00",
        ]:
            self.assert_refused(NoText, row)

    def test_no_stretch_ahead_of_no_column(self):
        for row in ["cut a 9 1 5 5", "cut a -1 1 6 5", "cut none 0 1 5 5", "cut one 1 5 0 0"]:
            self.assert_refused(NoStretch, row)

    def test_all_choices_of_a_cut(self):
        names = [("a", None), ("x", NoName), ("A", NoName), ("", NoName)]
        columns = [("0", None), ("2", NoColumn), ("-1", NoColumn), ("x", NoText)]
        values = [("77", None), ("077", NoText)]
        stretches = [
            ("90 91", None), ("* 5 5", NoRow), ("5 5", NoStretch), ("5 -0", NoText), ("** 5", NoText), ("5", NoRow),
        ]
        first = [NoRow, NoName, NoText, NoStretch, NoColumn]
        for choice in product(names, columns, values, stretches):
            row = "cut " + " ".join(words for words, refusal in choice)
            due = [refusal for words, refusal in choice if refusal]
            if due:
                self.assert_refused(min(due, key=first.index), row)
            else:
                self.assert_answer(row, "ok")
                self.assert_all_as_at_first()

    def test_all_choices_of_two_sheets(self):
        for kind, new, one, other in product(OF_TWO, ["new", "A", ""], ["a", "x", "B"], ["one", "y", ""]):
            row = f"{kind} {new} {one} {other}"
            if (new, one, other) != ("new", "a", "one"):
                self.assert_refused(NoName, row)
            elif kind != "join":
                self.assert_refused(NoWidth, row)


class TestRefusedChangesNothing(DeskTest):
    def test_after_a_refusal_the_desk_goes_on(self):
        for refusal, row in [
            (NoRow, "sheet a"), (NoName, "sheet A "), (NoText, "sheet a x"), (NoText, "put a x"),
            (NoWidth, "put a 1 @ 0 1"), (NoStretch, "cut a 0 1 5 5"), (NoColumn, "cut a 7 1 * *"),
            (NoWidth, "union a a one"), (NoName, "union a a x"), (NoName, "union a x a"), (NoName, "join A a a"),
            (NoWidth, "less one one a"), (NoWidth, "common b b one"),
        ]:
            self.assert_refused(refusal, row)
        self.assert_answer("put a 1 4 @ 3 5", "ok")
        self.assert_shown("a", "1 4 @ * 8; 1 6 @ 2 6; 2 4 @ 0 *")

    def test_a_name_that_was_refused_does_not_stand(self):
        for refusal, row in [(NoText, "sheet new x"), (NoWidth, "union new a one"), (NoName, "less new a x")]:
            self.assert_refused(refusal, row)
            self.assert_refused(NoName, "show new")


if __name__ == "__main__":
    unittest.main()
