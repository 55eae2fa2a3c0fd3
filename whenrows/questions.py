"""Questions, told as tuples: their widths, and their answers to plain tables."""

from whenrows.conditions import condition_columns, meets
from whenrows.errors import NoColumn, NoTable, NoWidth


def parts_of(question):
    """The questions straight within a question, the first one ahead of the second one."""
    kind = question[0]
    if kind == "table":
        return []
    if kind in ("pick", "columns", "group"):
        return [question[-1]]
    return [question[1], question[2]]


def width(question, widths):
    """How many cells the rows of the question's answer have; widths tells those of the tables."""
    if question[0] == "table":
        return table_width(question[1], widths)
    # The questions within are asked first, so what they refuse comes ahead of what the question itself does.
    return width_over(question, [width(part, widths) for part in parts_of(question)])


def table_width(name, widths):
    if name not in widths:
        raise NoTable(f"there is no table {name!r}")
    return widths[name]


def width_over(question, within):
    """The width of a question, those of the questions within it being known."""
    kind = question[0]
    if kind == "join":
        return within[0] + within[1]
    if kind in ("union", "common", "less"):
        refuse_unlike(within[0], within[1])
        return within[0]
    refuse_no_column(told_columns(question), within[0])
    if kind == "columns":
        return len(question[1])
    if kind == "group":
        return len(question[1]) + len(question[2])
    return within[0]


def refuse_unlike(one, other):
    if one != other:
        raise NoWidth(f"rows of {one} cells don't go with rows of {other}")


def refuse_no_column(columns, count):
    for column in columns:
        if column < 0 or column >= count:
            raise NoColumn(f"rows of {count} cells have no column {column}")


def told_columns(question):
    """The columns that a pick, columns or group itself tells."""
    if question[0] == "pick":
        return condition_columns(question[1])
    columns = list(question[1])
    if question[0] == "group":
        columns.extend([each[1] for each in question[2] if each[0] != "count"])
    return columns


def plain(question, tables):
    """The question's answer to plain tables: the rows in order, each once."""
    if question[0] == "table":
        return list(tables[question[1]])
    return plain_over(question, [plain(part, tables) for part in parts_of(question)])


def plain_over(question, within):
    """The plain answer of a question, those of the questions within it being known."""
    kind = question[0]
    if kind == "pick":
        return [row for row in within[0] if meets(question[1], row)]
    if kind == "columns":
        return sorted(set([cells_in(row, question[1]) for row in within[0]]))
    if kind == "group":
        return grouped(question[1], question[2], within[0])
    if kind == "join":
        return each_with_each(within[0], within[1])
    if kind == "union":
        return sorted(set(within[0]) | set(within[1]))
    if kind == "common":
        return sorted(set(within[0]) & set(within[1]))
    return sorted(set(within[0]) - set(within[1]))


def cells_in(row, columns):
    """The row's cells in these columns, in the order of the columns."""
    return tuple([row[column] for column in columns])


def each_with_each(one, other):
    # Rows of one table have as many cells, so the longer rows come in order too, each once.
    rows = []
    for row in one:
        rows.extend([row + behind for behind in other])
    return rows


def grouped(columns, sums, rows):
    """One row for each choice of cells in the columns: these cells and the sums of the rows that have them."""
    groups = {}
    for row in rows:
        groups.setdefault(cells_in(row, columns), []).append(row)
    return [cells + sums_of(sums, groups[cells]) for cells in sorted(groups)]


def sums_of(sums, rows):
    return tuple([sum_of(each, rows) for each in sums])


def sum_of(each, rows):
    """A count, sum, least or greatest of one row or more."""
    if each[0] == "count":
        return len(rows)
    cells = [row[each[1]] for row in rows]
    if each[0] == "sum":
        return sum(cells)
    if each[0] == "least":
        return min(cells)
    return max(cells)
