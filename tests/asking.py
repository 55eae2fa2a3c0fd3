"""What the tests of questions share: answers worked out without the program, and questions of many kinds."""

from itertools import product
from random import Random

from moments import FAR

WIDTHS = {"one": 1, "two": 2, "pair": 2, "three": 3}
KINDS = ["table", "pick", "columns", "join", "union", "common", "less", "group"]


def condition_holds(condition, row):
    kind, *rest = condition
    return {
        "same": lambda i, j: row[i] == row[j],
        "is": lambda i, value: row[i] == value,
        "below": lambda i, j: row[i] < row[j],
        "under": lambda i, value: row[i] < value,
        "both": lambda one, other: condition_holds(one, row) & condition_holds(other, row),
        "either": lambda one, other: condition_holds(one, row) | condition_holds(other, row),
        "not": lambda one: not condition_holds(one, row),
    }[kind](*rest)


def cells(row, numbers):
    return tuple(row[number] for number in numbers)


def sum_cell(rows, kind, column=None):
    if kind == "count":
        return len(rows)
    return {"sum": sum, "least": min, "greatest": max}[kind](row[column] for row in rows)


def group_rows(numbers, sums, rows):
    answer = set()
    for choice in {cells(row, numbers) for row in rows}:
        having = [row for row in rows if cells(row, numbers) == choice]
        answer.add(choice + tuple(sum_cell(having, *each) for each in sums))
    return answer


def answer_set(question, tables):
    """The set of the rows of the plain answer."""
    kind, *rest = question
    if kind == "table":
        return set(tables[rest[0]])
    if kind == "pick":
        return {row for row in answer_set(rest[1], tables) if condition_holds(rest[0], row)}
    if kind == "columns":
        return {cells(row, rest[0]) for row in answer_set(rest[1], tables)}
    if kind == "group":
        return group_rows(rest[0], rest[1], answer_set(rest[2], tables))
    one, other = (answer_set(part, tables) for part in rest)
    if kind == "join":
        return {first + second for first, second in product(one, other)}
    return {"union": one | other, "common": one & other, "less": one - other}[kind]


class Asker:
    """Makes questions, tables and sheets, the same ones in every run."""

    def __init__(self, seed):
        self.chance = Random(seed)

    def numbers(self, count, width):
        return [self.chance.randrange(width) for place in range(count)]

    def condition(self, width, depth):
        kinds = ["same", "is", "below", "under"]
        if depth > 0:
            kinds += ["both", "either", "not"]
        kind = self.chance.choice(kinds)
        if kind == "not":
            return (kind, self.condition(width, depth - 1))
        if kind in ("both", "either"):
            return (kind, self.condition(width, depth - 1), self.condition(width, depth - 1))
        return (kind, self.chance.randrange(width), self.chance.randrange(width if kind in ("same", "below") else 3))

    def sums(self, count, width):
        kinds = ["count", "sum", "least", "greatest"]
        chosen = [self.chance.choice(kinds) for place in range(count)]
        return [(kind,) if kind == "count" else (kind, self.chance.randrange(width)) for kind in chosen]

    def question(self, width, depth, kind=None):
        """A question of the width, up to depth parts one within another."""
        if kind is None:
            kind = self.chance.choice(KINDS)
        if width == 1 and kind == "join":
            kind = "union"
        if depth == 0 or kind == "table":
            return ("table", self.chance.choice([name for name in WIDTHS if WIDTHS[name] == width]))
        if kind == "pick":
            return (kind, self.condition(width, 2), self.question(width, depth - 1))
        if kind == "join":
            first = self.chance.randrange(1, width)
            return (kind, self.question(first, depth - 1), self.question(width - first, depth - 1))
        if kind in ("union", "common", "less"):
            return (kind, self.question(width, depth - 1), self.question(width, depth - 1))
        inner = self.chance.randrange(1, 4)
        if kind == "columns":
            return (kind, self.numbers(width, inner), self.question(inner, depth - 1))
        count = self.chance.randrange(width + 1)
        return (kind, self.numbers(count, inner), self.sums(width - count, inner), self.question(inner, depth - 1))

    def rows(self, width, most):
        return {tuple(self.chance.randrange(3) for cell in range(width)) for row in range(self.chance.randrange(most))}

    def tables(self):
        return {name: sorted(self.rows(width, 7)) for name, width in WIDTHS.items()}

    def span(self):
        bounds = sorted(self.chance.sample(range(-3, 8), self.chance.randrange(1, 7)))
        if self.chance.randrange(3) == 0:
            bounds = [None] + bounds
        if len(bounds) % 2 == 1:
            bounds.append(None)
        return list(zip(bounds[::2], bounds[1::2]))

    def sheets(self):
        return {name: [(row, self.span()) for row in sorted(self.rows(width, 7))] for name, width in WIDTHS.items()}


def holding(sheet, moment):
    """The rows that hold at the moment."""
    return [
        row for row, span in sheet
        if any((start is None or start <= moment) and (end is None or moment < end) for start, end in span)
    ]


def telling_moments(sheets):
    """The bounds of the sheets, the moments just ahead of and between them, and far ones."""
    bounds = {
        bound for sheet in sheets.values() for row, span in sheet for stretch in span for bound in stretch
        if bound is not None
    }
    rising = sorted(bounds)
    between = {(one + other) // 2 for one, other in zip(rising, rising[1:])}
    around = {bound + step for bound in bounds for step in (-1, 1)}
    return sorted(bounds | between | around | {-FAR - 1, 0, FAR + 1})


def lists_within(value):
    """All lists that are the value or lie somewhere in it."""
    found = [value] if isinstance(value, list) else []
    if isinstance(value, dict):
        value = list(value.values())
    if isinstance(value, (list, tuple)):
        for part in value:
            found.extend(lists_within(part))
    return found
