"""Texts that tell facts, such as `1 2 @ 0 5; 3 4 @ * *`, and sheets shown as such texts."""

from whenrows.errors import NoText
from whenrows.sheets import facts_of
from whenrows.stretches import is_stretch

FIGURES = "0123456789"
MOST_FIGURES = 60
MOST_CELLS = 5
MOST_FACTS = 60


def read_facts(text):
    """The facts that the text tells, as they stand."""
    if not isinstance(text, str):
        raise NoText("what tells facts is a text")
    if text == "":
        return []
    facts = [read_fact(part) for part in text.split("; ")]
    if len(facts) > MOST_FACTS:
        raise NoText(f"a text tells at most {MOST_FACTS} facts")
    if any([len(fact[0]) != len(facts[0][0]) for fact in facts]):
        raise NoText("the rows of the facts have unlike counts of cells")
    return facts


def read_fact(text):
    words = text.split(" ")
    cells = words[:-3]
    if len(cells) < 1 or len(cells) > MOST_CELLS or words[-3] != "@":
        raise NoText(f"{text!r} tells no fact")
    start = read_bound(words[-2])
    end = read_bound(words[-1])
    if not is_stretch(start, end):
        raise NoText(f"the start is not below the end in {text!r}")
    return (tuple([read_number(cell) for cell in cells]), start, end)


def read_bound(text):
    """The start or end that the text tells."""
    return None if text == "*" else read_number(text)


def read_number(text):
    """The whole number that the text tells."""
    if not tells_number(text):
        raise NoText(f"{text!r} tells no whole number")
    return int(text)


def tells_number(text):
    # Python's own int also takes noughts ahead, plus signs, blanks around and underscores between figures.
    below_nought = text.startswith("-")
    figures = text[1:] if below_nought else text
    if figures == "0":
        return not below_nought
    if figures == "" or figures[0] == "0" or len(figures) > MOST_FIGURES:
        return False
    return all([sign in FIGURES for sign in figures])


def show_sheet(sheet):
    """The text of the sheet's facts, row by row, stretch by stretch."""
    return "; ".join([show_fact(row, start, end) for row, start, end in facts_of(sheet)])


def show_fact(row, start, end):
    cells = show_row(row)
    first = show_bound(start)
    last = show_bound(end)
    return f"{cells} @ {first} {last}"


def show_bound(bound):
    return "*" if bound is None else str(bound)


def show_row(row):
    """The row's cells, parted by spaces."""
    return " ".join([str(cell) for cell in row])


def show_rows(rows):
    """The rows, parted by semicolons and spaces."""
    return "; ".join([show_row(row) for row in rows])
