"""Sheets: lists of tuples (row, span) in the order of the rows, each row once, no span empty."""

from whenrows.errors import NoWidth
from whenrows.stretches import bounds_of, lies_in, refuse_no_stretch, tidied


def sheet_of(facts):
    """The sheet that has each row at just the moments that one of its facts tells."""
    for fact in facts:
        refuse_no_stretch(fact[1], fact[2])
    refuse_unlike_widths(facts)
    told = {}
    for row, start, end in facts:
        told.setdefault(row, []).append((start, end))
    return [(row, tidied(told[row])) for row in sorted(told)]


def refuse_unlike_widths(facts):
    for place, fact in enumerate(facts):
        if len(fact[0]) != len(facts[0][0]):
            raise NoWidth(f"the row of fact {place} has another count of cells than the first one")


def facts_of(entries):
    """The facts of rows with their spans, row by row, stretch by stretch; a row may come twice, a span be empty."""
    facts = []
    for row, span in entries:
        facts.extend([(row, start, end) for start, end in span])
    return facts


def cell_count(sheet):
    """How many cells the sheet's rows have, 0 of a sheet without rows."""
    return len(sheet[0][0]) if sheet else 0


def cut_at(sheet, moment):
    """The rows that hold at the moment, in order."""
    return [row for row, span in sheet if lies_in(span, moment)]


def sheet_bounds(sheet):
    """The bounds of all the sheet's spans, rising, each once."""
    bounds = []
    for entry in sheet:
        bounds.extend(bounds_of(entry[1]))
    return sorted(set(bounds))
