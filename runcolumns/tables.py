"""Tables, and the tests of arguments that belong to a table."""

from runcolumns.common import TOP_VALUE, are_ascending, are_numbers, is_listing, is_number, is_order, is_row
from runcolumns.errors import BadColumn, BadIndex, BadOrder, BadPrices, BadRow, BadRows, BadTable, TooLarge

MOST_ROWS = 10
MOST_DIFFERENT = 7
TOP_PRICE = 9


class Table:
    """One to ten rows, in an order; a table never changes."""

    def __init__(self, rows):
        if not is_listing(rows, 1, MOST_ROWS):
            raise BadRows(None)
        for index, row in enumerate(rows):
            if not is_row(row) or len(row) != len(rows[0]):
                raise BadRows(index)
        self.rows = tuple(rows)

    @property
    def width(self):
        """The number of columns."""
        return len(self.rows[0])

    def __len__(self):
        return len(self.rows)

    def __getitem__(self, index):
        if not is_number(index, 0, len(self.rows) - 1):
            raise BadIndex("not the index of a row")
        return self.rows[index]

    def __iter__(self):
        raise TypeError("a Table is not iterated over")

    def __eq__(self, other):
        return isinstance(other, Table) and self.rows == other.rows

    def column(self, c):
        """The list of the values of a column."""
        check_column(self, c)
        return [row[c] for row in self.rows]

    def different(self):
        """The list of the pairs of a different row and how often it occurs, ascending."""
        return [(row, self.rows.count(row)) for row in different_rows(self)]

    def ordered(self, order):
        """The table with its rows in an order."""
        if not is_order(order, len(self.rows)):
            raise BadOrder("not an order of the rows")
        return Table([self.rows[index] for index in order])

    def turned(self):
        """The table with its rows reversed."""
        return Table(self.rows[::-1])


def different_rows(table):
    """The list of the rows of a table without duplicates, ascending."""
    return sorted(set(table.rows))


def check_table(table):
    """Raise BadTable if this is no Table."""
    if not isinstance(table, Table):
        raise BadTable("not a Table")


def check_few(table):
    """Raise TooLarge if there are more different rows than orders are found for."""
    if len(different_rows(table)) > MOST_DIFFERENT:
        raise TooLarge("more than seven different rows")


def check_index(index, highest):
    """Raise BadIndex if this is not an integer from 0 to the highest one."""
    if not is_number(index, 0, highest):
        raise BadIndex("no such index")


def check_stretch(table, first, past):
    """Raise BadIndex if these are not the first row of some neighbouring rows and the index after the last one."""
    check_index(first, len(table) - 1)
    if not is_number(past, first + 1, len(table)):
        raise BadIndex("not the index after the last row")


def check_column(table, c):
    """Raise BadColumn if this is no column of the table."""
    if not is_number(c, 0, table.width - 1):
        raise BadColumn("not a column of the table")


def check_columns(table, columns):
    """Raise BadColumn if this is no ascending tuple, possibly empty, of columns of the table."""
    if not are_ascending(columns, 0, table.width - 1):
        raise BadColumn("not an ascending tuple of columns of the table")


def check_some_columns(table, columns):
    """Raise BadColumn if this is no ascending tuple of one or more columns of the table."""
    check_columns(table, columns)
    if not columns:
        raise BadColumn("no columns")


def checked_column(table, c):
    """The list of the values of a column, if the arguments are right."""
    check_table(table)
    return table.column(c)


def check_row(table, row):
    """Raise BadRow if this is no row with as many values as the rows of the table."""
    if not is_row(row) or len(row) != table.width:
        raise BadRow("not a row with as many values as those of the table")


def check_value(value):
    """Raise BadRow if this is no value of a row."""
    if not is_number(value, 0, TOP_VALUE):
        raise BadRow("not a value")


def check_prices(table, prices):
    """Raise BadPrices if these are no prices for the columns of the table."""
    if not are_numbers(prices, 0, TOP_PRICE) or len(prices) != table.width:
        raise BadPrices("not a price from 0 to 9 for each column")
