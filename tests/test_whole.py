"""What holds over the whole program: its interface, and that what was told stays as it was told."""

import unittest
from copy import deepcopy
from importlib import import_module
from inspect import signature

from asking import Asker, lists_within
from forms import SheetTest
from whenrows.deeds import change, cut, put
from whenrows.desk import Desk
from whenrows.questions import plain, width
from whenrows.rules import key_broken, reference_broken
from whenrows.sheets import cut_at, sheet_bounds, sheet_of
from whenrows.stretches import bounds_of, joined, met, taken, tidied
from whenrows.texts import read_facts, show_sheet
from whenrows.timed import asked

INTERFACE = {
    "stretches": {
        "tidied": ["stretches"], "lies_in": ["span", "moment"], "joined": ["one", "other"], "met": ["one", "other"],
        "taken": ["one", "other"], "bounds_of": ["span"],
    },
    "sheets": {"sheet_of": ["facts"], "cut_at": ["sheet", "moment"], "sheet_bounds": ["sheet"]},
    "conditions": {"meets": ["condition", "row"]},
    "questions": {"width": ["question", "widths"], "plain": ["question", "tables"]},
    "timed": {"asked": ["question", "sheets"]},
    "deeds": {
        "put": ["sheet", "row", "start", "end"], "cut": ["sheet", "condition", "start", "end"],
        "change": ["sheet", "condition", "column", "value", "start", "end"],
    },
    "rules": {"key_broken": ["sheet", "columns"], "reference_broken": ["sheet", "columns", "other", "others"]},
    "texts": {"read_facts": ["text"], "show_sheet": ["sheet"]},
    "desk": {"Desk": []},
}
ONE, TWO = ("table", "one"), ("table", "two")


class TestInterface(unittest.TestCase):
    def test_names_and_arguments(self):
        for module, names in INTERFACE.items():
            for name, arguments in names.items():
                found = getattr(import_module(f"whenrows.{module}"), name)
                self.assertEqual(list(signature(found).parameters), arguments, (module, name))
        self.assertEqual(list(signature(Desk().say).parameters), ["row"])


class TestDeedsAndRulesAsQuestions(SheetTest):
    """What a deed does and what breaks a rule, told as questions over time."""

    def test_deeds(self):
        asker = Asker(51)
        for turn in range(100):
            sheets = {"one": asker.sheets()["two"]}
            start, end = asker.chance.choice(asker.span())
            sheets["two"] = sheet_of([((0,), start, end)])
            condition, row = asker.condition(2, 2), tuple(asker.numbers(2, 3))
            during = ("columns", [0, 1], ("join", ONE, TWO))
            lost = ("pick", condition, during)
            self.assertEqual(cut(sheets["one"], condition, start, end), asked(("less", ONE, lost), sheets))
            changed = asked(("columns", [0], lost), sheets)
            sheets["four"] = [((first, row[1]), span) for (first,), span in changed]
            self.assertEqual(
                change(sheets["one"], condition, 1, row[1], start, end),
                asked(("union", ("less", ONE, lost), ("table", "four")), sheets),
            )
            self.assertEqual(
                put(sheets["one"], row, start, end),
                asked(("union", ONE, ("table", "row")), {**sheets, "row": [(row, [(start, end)])]}),
            )

    def test_rules(self):
        asker = Asker(52)
        for turn in range(100):
            drawn = asker.sheets()
            sheets = {"one": drawn["two"], "two": drawn["three"]}
            unlike = ("not", ("both", ("same", 0, 2), ("same", 1, 3)))
            pairs = ("pick", ("both", ("same", 0, 2), unlike), ("join", ONE, ONE))
            self.assertEqual(key_broken(sheets["one"], [0]), asked(("columns", [0], pairs), sheets))
            fitting = ("pick", ("both", ("same", 0, 4), ("same", 1, 2)), ("join", ONE, TWO))
            self.assertEqual(
                reference_broken(sheets["one"], [0, 1], sheets["two"], [2, 0]),
                asked(("less", ONE, ("columns", [0, 1], fitting)), sheets),
            )


class TestWhatWasToldStays(SheetTest):
    """Everything is told out of what was told before."""

    TEXTS = ["1 4 @ * 3; 1 4 @ 5 8; 1 6 @ 2 6; 2 4 @ 0 *", "1 4 @ 2 6; 2 4 @ * *; 3 0 @ 7 9; 4 4 @ 1 2"]

    def steps(self, told):
        """Functions that each tell something; told is what was told so far, by names."""
        return [
            ("facts", lambda: read_facts(self.TEXTS[0])),
            ("more", lambda: read_facts(self.TEXTS[1])),
            ("span", lambda: tidied([(start, end) for row, start, end in told["facts"]])),
            ("one", lambda: sheet_of(told["facts"])),
            ("two", lambda: sheet_of(told["more"])),
            ("joined", lambda: joined(told["span"], told["one"][0][1])),
            ("met", lambda: met(told["span"], told["one"][0][1])),
            ("taken", lambda: taken(told["span"], told["one"][0][1])),
            ("bounds", lambda: bounds_of(told["met"])),
            ("put", lambda: put(told["one"], (1, 5), 0, 9)),
            ("cut", lambda: cut(told["put"], ("is", 1, 4), 1, 7)),
            ("changed", lambda: change(told["cut"], ("below", 0, 1), 0, 2, None, 4)),
            ("unchanged", lambda: change(told["cut"], ("is", 0, 99), 0, 2, None, None)),
            ("key", lambda: key_broken(told["put"], [0])),
            ("reference", lambda: reference_broken(told["put"], [1], told["two"], [0])),
            ("itself", lambda: reference_broken(told["two"], [1], told["two"], [0])),
            ("table", lambda: asked(ONE, {"one": told["changed"]})),
            ("union", lambda: asked(("union", ONE, TWO), {"one": told["put"], "two": told["two"]})),
            ("group", lambda: asked(("group", [0], [("count",), ("sum", 1)], ONE), {"one": told["union"]})),
            ("at", lambda: cut_at(told["union"], 2)),
            ("all", lambda: sheet_bounds(told["union"])),
            ("plain", lambda: plain(("table", "at"), {"at": told["at"]})),
            ("width", lambda: width(("join", ONE, ONE), {"one": 2})),
            ("shown", lambda: show_sheet(told["union"])),
        ]

    def tell_all(self):
        told = {}
        for name, step in self.steps(told):
            before = deepcopy(told)
            told[name] = step()
            self.assertEqual({each: told[each] for each in before}, before, name)
        return told

    def test_what_is_told_later_changes_nothing(self):
        told = self.tell_all()
        kept = deepcopy(told)
        self.tell_all()
        for name, step in self.steps(told):
            self.assertEqual(step(), kept[name], name)
        self.assertEqual(told, kept)

    def test_no_list_is_told_twice(self):
        told = self.tell_all()
        found = lists_within(told)
        self.assertEqual(len(found), len({id(each) for each in found}))

    def test_changing_what_was_told_changes_nothing_else(self):
        for name in self.tell_all():
            told = self.tell_all()
            kept = deepcopy(told)
            for each in lists_within(told[name]):
                each.clear()
            for other in told:
                if other != name:
                    self.assertEqual(told[other], kept[other], (name, other))
            self.assertEqual(self.tell_all(), kept)

    def test_desks_beside_it(self):
        desk = Desk()
        desk.say(f"sheet a {self.TEXTS[0]}")
        told = self.tell_all()
        kept = deepcopy(told)
        desk.say("cut a 1 4 * *")
        self.assertEqual(told, kept)
        for each in lists_within(told):
            each.clear()
        self.assertEqual(desk.say("show a"), "1 6 @ 2 6")


if __name__ == "__main__":
    unittest.main()
