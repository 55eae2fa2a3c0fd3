"""Rules of sheets: when keys and references are broken."""

from whenrows.questions import cells_in
from whenrows.sheets import facts_of, sheet_of
from whenrows.stretches import taken
from whenrows.timed import columns_over_time, groups_over_time, without_empty


def key_broken(sheet, columns):
    """For each choice of cells in the columns the moments at which two rows or more have them, as a sheet."""
    counted = groups_over_time(columns, [("count",)], sheet)
    # Where two rows become three, one stretch ends and another begins; as facts of the same cells they are one again.
    return sheet_of(facts_of([(row[:-1], span) for row, span in counted if row[-1] > 1]))


def reference_broken(sheet, columns, other, others):
    """The rows with the moments at which no row of the other sheet has, in its columns, their cells."""
    referred = dict(columns_over_time(others, other))
    return without_empty([(row, taken(span, referred.get(cells_in(row, columns), []))) for row, span in sheet])
