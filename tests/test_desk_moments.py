import unittest
from itertools import product
from random import Random

from desks import OF_TWO
from moments import FAR
from whenrows.desk import Desk
from whenrows.errors import NoColumn, NoText, NoWidth

WINDOW = range(-4, 10)


class MomentDesk:
    """A desk that keeps, for each name, the moments of WINDOW at which each row holds; all beyond is as at its ends."""

    def __init__(self):
        self.tables = {}

    def during(self, start, end):
        return {
            moment for moment in WINDOW
            if (start == "*" or int(start) <= moment) and (end == "*" or moment < int(end))
        }

    def keep(self, name, holds):
        self.tables[name] = {row: moments for row, moments in holds.items() if moments}

    def put(self, name, row, start, end):
        holds = dict(self.tables[name])
        holds[row] = holds.get(row, set()) | self.during(start, end)
        self.keep(name, holds)

    def cut(self, name, column, value, start, end):
        lost = self.during(start, end)
        holds = self.tables[name].items()
        self.keep(name, {row: moments - lost if row[column] == value else moments for row, moments in holds})

    def of_two(self, kind, new, one, other):
        one, other = self.tables[one], self.tables[other]
        if kind == "join":
            pairs = product(one, other)
            self.keep(new, {first + second: one[first] & other[second] for first, second in pairs})
            return
        pairing = {"union": set.union, "common": set.intersection, "less": set.difference}[kind]
        rows = one.keys() | other.keys()
        self.keep(new, {row: pairing(one.get(row, set()), other.get(row, set())) for row in rows})

    def text(self, row, moments):
        """The row's facts, stretch by stretch."""
        stretches = []
        for moment in sorted(moments):
            start = "*" if moment == WINDOW[0] else moment
            end = "*" if moment == WINDOW[-1] else moment + 1
            if stretches and stretches[-1][1] == moment:
                start = stretches.pop()[0]
            stretches.append((start, end))
        cells = " ".join(str(cell) for cell in row)
        return [f"{cells} @ {start} {end}" for start, end in stretches]

    def show(self, holds):
        return "; ".join(fact for row in sorted(holds) for fact in self.text(row, holds[row]))

    def at(self, name, moment):
        rows = sorted(row for row, moments in self.tables[name].items() if moment in moments)
        return "; ".join(" ".join(str(cell) for cell in row) for row in rows)

    def key(self, name, column):
        holds = self.tables[name]
        broken = {}
        for one, other in product(holds, repeat=2):
            if one != other and one[column] == other[column]:
                choice = (one[column],)
                broken[choice] = broken.get(choice, set()) | holds[one] & holds[other]
        return self.show({row: moments for row, moments in broken.items() if moments}) or "kept"

    def width(self, name):
        return len(list(self.tables[name])[0]) if self.tables[name] else 0


class TestManyRows(unittest.TestCase):
    def setUp(self):
        self.chance = Random(41)

    def stretch(self):
        bounds = sorted(self.chance.sample(WINDOW[1:], 2))
        return self.chance.choice([("*", bounds[0]), (bounds[0], "*"), ("*", "*")] + [tuple(bounds)] * 5)

    def row(self, width):
        return tuple(self.chance.randrange(-1, 3) for cell in range(width))

    def fact(self, row, start, end):
        cells = " ".join(str(cell) for cell in row)
        return f"{cells} @ {start} {end}"

    def tell_sheet(self, desk, model, name):
        width = self.chance.randrange(1, 4)
        model.keep(name, {})
        facts = []
        for place in range(self.chance.randrange(8)):
            row, (start, end) = self.row(width), self.stretch()
            facts.append(self.fact(row, start, end))
            model.put(name, row, start, end)
        self.assertEqual(desk.say(f"sheet {name} " + "; ".join(facts)), "ok")

    def tell_put(self, desk, model, name):
        width = model.width(name)
        row, (start, end) = self.row(self.chance.choice([width or 2] * 4 + [1, 2, 3])), self.stretch()
        words = f"put {name} " + self.fact(row, start, end)
        if width not in (0, len(row)):
            with self.assertRaises(NoWidth):
                desk.say(words)
            return
        if len(row) > 5:
            with self.assertRaises(NoText):
                desk.say(words)
            return
        self.assertEqual(desk.say(words), "ok")
        model.put(name, row, start, end)

    def tell_cut(self, desk, model, name):
        column, value, (start, end) = self.chance.randrange(-1, 4), self.chance.randrange(-1, 3), self.stretch()
        words = f"cut {name} {column} {value} {start} {end}"
        if column not in range(model.width(name)):
            with self.assertRaises(NoColumn):
                desk.say(words)
            return
        self.assertEqual(desk.say(words), "ok")
        model.cut(name, column, value, start, end)

    def tell_of_two(self, desk, model, names):
        kind = self.chance.choice(OF_TWO)
        new, one, other = [self.chance.choice(names) for place in range(3)]
        widths = [model.width(one), model.width(other)]
        if kind == "join" and sum(widths) > 6:
            return
        if kind != "join" and 0 not in widths and widths[0] != widths[1]:
            with self.assertRaises(NoWidth):
                desk.say(f"{kind} {new} {one} {other}")
            return
        self.assertEqual(desk.say(f"{kind} {new} {one} {other}"), "ok")
        model.of_two(kind, new, one, other)

    def compare(self, desk, model, names):
        for name in names:
            self.assertEqual(desk.say(f"show {name}"), model.show(model.tables[name]))
            for moment in WINDOW:
                self.assertEqual(desk.say(f"at {name} {moment}"), model.at(name, moment))
            self.assertEqual(desk.say(f"at {name} {-FAR}"), model.at(name, WINDOW[0]))
            self.assertEqual(desk.say(f"at {name} {FAR}"), model.at(name, WINDOW[-1]))
            for column in range(model.width(name)):
                self.assertEqual(desk.say(f"key {name} {column}"), model.key(name, column))

    def test_against_moments(self):
        names = ["a", "b", "c"]
        for turn in range(25):
            desk, model = Desk(), MomentDesk()
            for name in names:
                self.tell_sheet(desk, model, name)
            for step in range(12):
                tell = self.chance.choice([self.tell_sheet, self.tell_put, self.tell_put, self.tell_cut, None, None])
                if tell is None:
                    self.tell_of_two(desk, model, names)
                else:
                    tell(desk, model, self.chance.choice(names))
                self.compare(desk, model, names)

    def test_three_hundred_rows(self):
        desk, holds = Desk(), {}
        desk.say("sheet a ")
        for place in range(149):
            row = (place % 30, place)
            self.assertEqual(desk.say(f"put a {row[0]} {row[1]} @ {place} {place + 7}"), "ok")
            holds[row] = set(range(place, place + 7))
            self.assertEqual(desk.say(f"cut a 0 {place % 7} {place} {place + 2}"), "ok")
            for other in holds:
                if other[0] == place % 7:
                    holds[other] -= {place, place + 1}
        for moment in range(-1, 160):
            rows = sorted(row for row in holds if moment in holds[row])
            self.assertEqual(desk.say(f"at a {moment}"), "; ".join(f"{one} {other}" for one, other in rows))


if __name__ == "__main__":
    unittest.main()
