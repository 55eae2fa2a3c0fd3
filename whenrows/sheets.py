"""Sheets: lists of tuples (row, span) in the order of the rows, each row once, no span empty."""

from whenrows.errors import NoStretch, NoWidth
from whenrows.stretches import bounds_of, is_stretch, lies_in, tidied


def sheet_of(facts):
    """The sheet that has each row at just the moments that one of its facts tells."""
    refuse_no_stretch(facts)
    refuse_unlike_widths(facts)
    told = {}
    for row, start, end in facts:
        told.setdefault(row, []).append((start, end))
    return [(row, tidied(told[row])) for row in sorted(told)]


def refuse_no_stretch(facts):
    for place, fact in enumerate(facts):
        if not is_stretch(fact[1], fact[2]):
            raise NoStretch(f"the start of fact {place} is not below its end")


def refuse_unlike_widths(facts):
    for place, fact in enumerate(facts):
        if len(fact[0]) != len(facts[0][0]):
            raise NoWidth(f"the row of fact {place} has another count of cells than the first one")


def cut_at(sheet, moment):
    """The rows that hold at the moment, in order."""
    return [row for row, span in sheet if lies_in(span, moment)]


def sheet_bounds(sheet):
    """The bounds of all the sheet's spans, rising, each once."""
    bounds = []
    for entry in sheet:
        bounds.extend(bounds_of(entry[1]))
    return sorted(set(bounds))
