"""All errors that the package raises."""


class ColumnError(ValueError):
    """The base of all errors of the package."""


class BadRows(ColumnError):
    """No rows of a table; index is that of the first wrong row, or None."""

    def __init__(self, index=None):
        super().__init__("no rows of a table")
        self.index = index


class BadTable(ColumnError):
    """No Table."""


class BadIndex(ColumnError):
    """An index, or a number like one, that does not exist here."""


class BadColumn(ColumnError):
    """No column of the table, or no ascending tuple of its columns."""


class BadOrder(ColumnError):
    """No order of the kind that is asked for."""


class BadPrices(ColumnError):
    """No prices of the columns."""


class BadRuns(ColumnError):
    """No runs; index is that of the first wrong item, or None."""

    def __init__(self, index=None):
        super().__init__("no runs")
        self.index = index


class BadRow(ColumnError):
    """No row that fits, or no value of one."""


class BadSizes(ColumnError):
    """No sizes, or no number of the size that is asked for."""


class BadAsk(ColumnError):
    """No ask for the columns of the table."""


class TooLarge(ColumnError):
    """More rows than there may be here."""


class NothingDone(ColumnError):
    """There is no deed that can be undone."""


class BadCounts(ColumnError):
    """No counts of the values of a column."""


class BadAsks(ColumnError):
    """No asks with prices; index is that of the first wrong item, or None."""

    def __init__(self, index=None):
        super().__init__("no asks with prices")
        self.index = index


class BadMost(ColumnError):
    """No limit of the runs of a page."""


class BadPages(ColumnError):
    """No number of pages."""


class BadSet(ColumnError):
    """No set of rows, or no word for combining two."""


class BadSets(ColumnError):
    """No sets of rows; index is that of the first wrong item, or None."""

    def __init__(self, index=None):
        super().__init__("no sets of rows")
        self.index = index


class BadPieces(ColumnError):
    """No pieces to be joined; index is that of the first wrong item, or None."""

    def __init__(self, index=None):
        super().__init__("no pieces")
        self.index = index


class BadText(ColumnError):
    """No text of a table; line is the index of the first wrong line."""

    def __init__(self, line=0):
        super().__init__("no text of a table")
        self.line = line
