"""Deeds: rows put into a sheet, cut or changed for a stretch of time."""

from whenrows.conditions import meets
from whenrows.sheets import facts_of, sheet_of
from whenrows.stretches import met, refuse_no_stretch, taken


def put(sheet, row, start, end):
    """The sheet in which the row holds at all moments of the stretch, too."""
    # As one more fact the row is refused just where a fact is: NoStretch first, then NoWidth.
    return sheet_of(facts_of(sheet) + [(row, start, end)])


def cut(sheet, condition, start, end):
    """The sheet in which the rows that meet the condition do not hold at the moments of the stretch."""
    refuse_no_stretch(start, end)
    entries = []
    for row, span in sheet:
        kept = taken(span, [(start, end)]) if meets(condition, row) else span
        entries.append((row, kept))
    return sheet_of(facts_of(entries))


def change(sheet, condition, column, value, start, end):
    """The sheet in which, for the stretch, the rows that meet the condition have the value in the column."""
    refuse_no_stretch(start, end)
    entries = []
    for row, span in sheet:
        if meets(condition, row):
            entries.append((row, taken(span, [(start, end)])))
            entries.append((with_cell(row, column, value), met(span, [(start, end)])))
        else:
            entries.append((row, span))
    return sheet_of(facts_of(entries))


def with_cell(row, column, value):
    return row[:column] + (value,) + row[column + 1:]
