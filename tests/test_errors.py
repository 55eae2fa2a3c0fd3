import unittest

from whenrows.errors import NoColumn, NoName, NoRow, NoStretch, NoTable, NoText, NoWidth, WhenError

REFUSALS = [NoStretch, NoWidth, NoTable, NoColumn, NoText, NoName, NoRow]


class TestErrors(unittest.TestCase):
    def test_any_refusal_is_a_value_error(self):
        self.assertEqual(WhenError.__bases__, (ValueError,))

    def test_each_is_a_when_error_and_a_value_error(self):
        for refusal in REFUSALS:
            with self.subTest(refusal.__name__):
                self.assertEqual(refusal.__bases__, (WhenError,))
                self.assertIsInstance(refusal("words"), WhenError)
                self.assertIsInstance(refusal("words"), ValueError)

    def test_none_stands_under_another_one(self):
        for one in REFUSALS:
            for other in REFUSALS:
                with self.subTest(one=one.__name__, other=other.__name__):
                    self.assertEqual(issubclass(one, other), REFUSALS.index(one) == REFUSALS.index(other))

    def test_their_names(self):
        self.assertEqual(
            [refusal.__name__ for refusal in REFUSALS],
            ["NoStretch", "NoWidth", "NoTable", "NoColumn", "NoText", "NoName", "NoRow"],
        )


if __name__ == "__main__":
    unittest.main()
