import unittest
from itertools import product

from asking import Asker, condition_holds
from moments import FAR
from whenrows.conditions import meets

CELLS = [-1, 0, 2]
ROWS = list(product(CELLS, repeat=3))


class TestMeets(unittest.TestCase):
    def assert_meets(self, condition, row, expected):
        self.assertIs(meets(condition, row), expected, (condition, row))

    def assert_alike(self, condition, expected):
        for row in ROWS:
            self.assert_meets(condition, row, expected(row))

    def test_same(self):
        self.assert_meets(("same", 0, 1), (4, 4), True)
        self.assert_meets(("same", 0, 1), (4, -4), False)
        for i, j in product(range(3), repeat=2):
            self.assert_alike(("same", i, j), lambda row: row[i] == row[j])

    def test_is(self):
        self.assert_meets(("is", 1, 4), (0, 4), True)
        self.assert_meets(("is", 1, 4), (4, 0), False)
        for i, value in product(range(3), [-2, -1, 0, 1, 2, 3]):
            self.assert_alike(("is", i, value), lambda row: row[i] == value)

    def test_below(self):
        self.assert_meets(("below", 0, 1), (3, 4), True)
        self.assert_meets(("below", 0, 1), (4, 4), False)
        self.assert_meets(("below", 0, 1), (5, 4), False)
        self.assert_meets(("below", 1, 0), (5, 4), True)
        for i, j in product(range(3), repeat=2):
            self.assert_alike(("below", i, j), lambda row: row[i] < row[j])

    def test_under(self):
        self.assert_meets(("under", 0, 4), (3,), True)
        self.assert_meets(("under", 0, 4), (4,), False)
        self.assert_meets(("under", 0, 4), (5,), False)
        for i, value in product(range(3), [-2, -1, 0, 1, 2, 3]):
            self.assert_alike(("under", i, value), lambda row: row[i] < value)

    def test_the_second_number_is_a_column_or_a_value(self):
        self.assert_meets(("same", 0, 1), (1, 9), False)
        self.assert_meets(("is", 0, 1), (1, 9), True)
        self.assert_meets(("below", 0, 1), (5, 9), True)
        self.assert_meets(("under", 0, 1), (5, 9), False)
        self.assert_meets(("is", 0, -7), (-7,), True)

    def test_both_either_not(self):
        true, false = ("is", 0, 7), ("is", 0, 8)
        for one, other in product([true, false], repeat=2):
            self.assert_meets(("both", one, other), (7,), one == true and other == true)
            self.assert_meets(("either", one, other), (7,), one == true or other == true)
        self.assert_meets(("not", true), (7,), False)
        self.assert_meets(("not", false), (7,), True)

    def test_several_within_one_another(self):
        self.assert_alike(
            ("both", ("not", ("same", 0, 1)), ("either", ("under", 2, 0), ("below", 1, 0))),
            lambda row: row[0] != row[1] and (row[2] < 0 or row[1] < row[0]),
        )
        self.assert_alike(("not", ("both", ("is", 0, 0), ("is", 1, 2))), lambda row: row[:2] != (0, 2))
        self.assert_alike(("not", ("either", ("is", 0, 0), ("is", 1, 2))), lambda row: row[0] != 0 and row[1] != 2)
        self.assert_alike(("not", ("not", ("under", 1, 0))), lambda row: row[1] < 0)

    def test_many_conditions(self):
        asker = Asker(1)
        for turn in range(300):
            condition = asker.condition(3, 4)
            self.assert_alike(condition, lambda row: condition_holds(condition, row))

    def test_deep_and_long(self):
        deep = ("is", 0, 1)
        for turn in range(40):
            deep = ("not", deep)
        self.assert_meets(deep, (1,), True)
        self.assert_meets(("not", deep), (1,), False)
        chain = ("is", 0, 0)
        for value in range(1, 30):
            chain = ("either", ("is", 0, value), chain)
        self.assert_meets(chain, (0,), True)
        self.assert_meets(chain, (29,), True)
        self.assert_meets(chain, (30,), False)

    def test_sixty_figures(self):
        row = (FAR - 1, FAR, -FAR)
        self.assert_meets(("same", 0, 1), row, False)
        self.assert_meets(("below", 0, 1), row, True)
        self.assert_meets(("below", 1, 0), row, False)
        self.assert_meets(("is", 1, FAR), row, True)
        self.assert_meets(("is", 0, FAR), row, False)
        self.assert_meets(("under", 0, FAR), row, True)
        self.assert_meets(("under", 1, FAR), row, False)
        self.assert_meets(("under", 2, 1 - FAR), row, True)
        self.assert_meets(("under", 2, -FAR), row, False)


if __name__ == "__main__":
    unittest.main()
