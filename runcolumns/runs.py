"""Runs of columns, and what they cost."""

from runcolumns.common import TOP_VALUE, differing, is_listing, is_number
from runcolumns.errors import BadRuns
from runcolumns.tables import MOST_ROWS, Table, check_index, check_prices, check_table, checked_column

MOST_COLUMNS = 4


def runs_of_values(values):
    """The list of the runs of a sequence of values."""
    runs = []
    for value in values:
        if runs and runs[-1][0] == value:
            runs[-1] = (value, runs[-1][1] + 1)
        else:
            runs.append((value, 1))
    return runs


def runs_of(table, c):
    """The list of the runs of a column."""
    return runs_of_values(checked_column(table, c))


def all_runs(table):
    """The list of the runs of all columns."""
    check_table(table)
    return [runs_of_values(table.column(c)) for c in range(table.width)]


def count_runs(table):
    """The number of the runs of all columns together."""
    return sum([len(runs) for runs in all_runs(table)])


def changes(table):
    """The list of the numbers of columns in which adjacent rows differ."""
    check_table(table)
    return [differing(one, other) for one, other in zip(table.rows, table.rows[1:])]


def cost(table, prices):
    """The sum of the prices of all runs."""
    check_table(table)
    check_prices(table, prices)
    return sum([price * len(runs) for price, runs in zip(prices, all_runs(table))])


def is_run(run):
    """Whether this is a pair of a value and a number of rows."""
    if not isinstance(run, tuple) or len(run) != 2:
        return False
    return is_number(run[0], 0, TOP_VALUE) and is_number(run[1], 1, MOST_ROWS)


def are_runs(runs):
    """Whether these are the runs of a column."""
    if not is_listing(runs, 1, MOST_ROWS) or not all([is_run(run) for run in runs]):
        return False
    if any([first[0] == second[0] for first, second in zip(runs, runs[1:])]):
        return False
    return count_rows(runs) <= MOST_ROWS


def check_runs(runs):
    """Raise BadRuns if these are no runs of a column."""
    if not are_runs(runs):
        raise BadRuns(None)


def count_rows(runs):
    """The number of the rows of some runs."""
    return sum([many for value, many in runs])


def starts(runs):
    """The list of the indices of the rows at which runs begin."""
    check_runs(runs)
    return [count_rows(runs[:at]) for at in range(len(runs))]


def values_of(runs):
    """The list of the values of all rows."""
    check_runs(runs)
    return [value for value, many in runs for _ in range(many)]


def value_at(runs, index):
    """The value of the row with this index."""
    check_runs(runs)
    check_index(index, count_rows(runs) - 1)
    return values_of(runs)[index]


def table_of(columns):
    """The table whose columns have these runs."""
    if not is_listing(columns, 1, MOST_COLUMNS):
        raise BadRuns(None)
    for index, runs in enumerate(columns):
        if not are_runs(runs) or count_rows(runs) != count_rows(columns[0]):
            raise BadRuns(index)
    values = [values_of(runs) for runs in columns]
    return Table([tuple([column[at] for column in values]) for at in range(len(values[0]))])
