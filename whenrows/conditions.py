"""Conditions on rows, told as tuples."""


def meets(condition, row):
    """Whether the row meets the condition."""
    kind = condition[0]
    if kind == "same":
        return row[condition[1]] == row[condition[2]]
    if kind == "is":
        return row[condition[1]] == condition[2]
    if kind == "below":
        return row[condition[1]] < row[condition[2]]
    if kind == "under":
        return row[condition[1]] < condition[2]
    if kind == "both":
        return meets(condition[1], row) and meets(condition[2], row)
    if kind == "either":
        return meets(condition[1], row) or meets(condition[2], row)
    return not meets(condition[1], row)


def condition_columns(condition):
    """The columns that the condition tells, and those that the conditions within it tell."""
    kind = condition[0]
    if kind in ("same", "below"):
        return [condition[1], condition[2]]
    if kind in ("is", "under"):
        return [condition[1]]
    if kind == "not":
        return condition_columns(condition[1])
    return condition_columns(condition[1]) + condition_columns(condition[2])
