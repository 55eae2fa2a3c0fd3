"""What the tests of the desk share: a desk that keeps some sheets, and what it is told."""

import unittest

from whenrows.desk import Desk

A = "1 4 @ * 3; 1 4 @ 5 8; 1 6 @ 2 6; 2 4 @ 0 *"
B = "1 4 @ 2 6; 2 4 @ * *; 3 0 @ 7 9"
ONE = "5 @ 0 4"
SHOWN = {"a": A, "b": B, "one": ONE, "none": ""}
OF_TWO = ["union", "common", "less", "join"]
SIXTY = "9" * 60
NO_NUMBERS = ["", "-", "-0", "+1", "01", "-01", "x", "1.0", "1\n", "1\t", "1;", "@", "1" + "0" * 60, "-1" + "0" * 60]


class DeskTest(unittest.TestCase):
    def setUp(self):
        self.desk = Desk()
        for name, facts in SHOWN.items():
            self.assert_answer(f"sheet {name} {facts}", "ok")

    def assert_answer(self, row, expected):
        answer = self.desk.say(row)
        self.assertIs(type(answer), str)
        self.assertEqual(answer, expected, row)

    def assert_shown(self, name, expected):
        self.assert_answer(f"show {name}", expected)

    def assert_all_as_at_first(self):
        for name, facts in SHOWN.items():
            self.assert_shown(name, facts)

    def assert_refused(self, refusal, row):
        """Refused with just that, twice alike, and all sheets stay as they were."""
        for turn in range(2):
            with self.assertRaises(refusal, msg=repr(row)) as caught:
                self.desk.say(row)
            self.assertIs(type(caught.exception), refusal, repr(row))
            self.assert_all_as_at_first()
