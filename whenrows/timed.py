"""Questions over time: their answers to sheets, for all moments at once."""

from whenrows.conditions import meets
from whenrows.questions import cells_in, parts_of
from whenrows.sheets import facts_of, sheet_of
from whenrows.stretches import joined, met, taken
from whenrows.tallies import tallied


def asked(question, sheets):
    """The sheet that at each moment has the rows of the plain answer to the sheets cut then."""
    if question[0] == "table":
        # The spans are copied here, so those that the steps below hand on are never the asker's lists.
        return [(row, list(span)) for row, span in sheets[question[1]]]
    return asked_over(question, [asked(part, sheets) for part in parts_of(question)])


def asked_over(question, within):
    """The answer of a question over time, those of the questions within it being known."""
    kind = question[0]
    if kind == "pick":
        return [(row, span) for row, span in within[0] if meets(question[1], row)]
    if kind == "columns":
        return columns_over_time(question[1], within[0])
    if kind == "group":
        return groups_over_time(question[1], question[2], within[0])
    if kind == "join":
        return join_over_time(within[0], within[1])
    if kind == "union":
        return union_over_time(within[0], within[1])
    if kind == "common":
        return matched_over_time(within[0], within[1], met)
    return matched_over_time(within[0], within[1], taken)


def columns_over_time(columns, sheet):
    return sheet_of(facts_of([(cells_in(row, columns), span) for row, span in sheet]))


def groups_over_time(columns, sums, sheet):
    groups = {}
    for row, span in sheet:
        groups.setdefault(cells_in(row, columns), []).append((row, span))
    facts = []
    for cells in groups:
        facts.extend([(cells + told, start, end) for told, start, end in tallied(sums, groups[cells])])
    return sheet_of(facts)


def join_over_time(one, other):
    # Rows of one sheet have as many cells, so the longer rows come in order too, each once.
    entries = []
    for row, span in one:
        for behind, other_span in other:
            entries.append((row + behind, met(span, other_span)))
    return without_empty(entries)


def union_over_time(one, other):
    spans = dict(one)
    for row, span in other:
        spans[row] = joined(spans[row], span) if row in spans else span
    return [(row, spans[row]) for row in sorted(spans)]


def matched_over_time(one, other, pairing):
    """The rows of the one, their spans paired with those that the other has for the same rows."""
    spans = dict(other)
    return without_empty([(row, pairing(span, spans.get(row, []))) for row, span in one])


def without_empty(entries):
    return [(row, span) for row, span in entries if len(span) > 0]
