"""The refusals, one class each; none of them stands under another one."""


class WhenError(ValueError):
    """Any refusal."""


class NoStretch(WhenError):
    """A start that is not below its end."""


class NoWidth(WhenError):
    """Rows with unlike counts of cells where they must be alike."""


class NoTable(WhenError):
    """A table that is not there."""


class NoColumn(WhenError):
    """A column that is not there."""


class NoText(WhenError):
    """A text that does not tell what it has to."""


class NoName(WhenError):
    """A name that is none, or by which no sheet stands."""


class NoRow(WhenError):
    """A row of text that the desk does not know."""
