"""How far numbers of runs lie apart by luck, and how many tables have so many runs."""

from runcolumns.common import is_number, lowest_terms
from runcolumns.errors import BadSizes
from runcolumns.spreading import Arrangements, average_runs, check_runs_with, count_columns, kept
from runcolumns.stepping import check_sizes
from runcolumns.tables import MOST_ROWS

MOST_RUNS = 40


def columns_by_runs(counts):
    """The dict from 1, 2 and so on runs to how many columns with the counts have so many."""
    arrangements = Arrangements()
    return {runs: arrangements.ways(0, kept(counts), runs) for runs in range(1, sum(counts) + 1)}


def spread_of_runs(counts):
    """The average square of how far numbers of runs are from their average, as a numerator and a denominator."""
    numerator, denominator = average_runs(counts)
    found = columns_by_runs(counts)
    # All differences are taken as often as the denominator says, which keeps them integers.
    apart = {runs: runs * denominator - numerator for runs in found}
    squares = sum([found[runs] * apart[runs] * apart[runs] for runs in found])
    return lowest_terms(squares, denominator * denominator * sum(list(found.values())))


def chance_of_few(counts, runs):
    """The part of all columns with the counts that have at most so many runs."""
    check_runs_with(counts, runs)
    found = columns_by_runs(counts)
    return lowest_terms(sum([found[few] for few in range(1, runs + 1)]), sum(list(found.values())))


def check_shape(rows, values):
    """Raise BadSizes if this is not the shape of a table."""
    if not is_number(rows, 1, MOST_ROWS):
        raise BadSizes("not from 1 to 10 rows")
    check_sizes(values)


def with_column(found, rows, many):
    """From how many tables have so many runs, the same for tables with one more column of so many values."""
    longer = {}
    for runs in found:
        for more in range(1, rows + 1):
            longer[runs + more] = longer.get(runs + more, 0) + found[runs] * count_columns(rows, many, more)
    return longer


def tables_by_runs(rows, values):
    """The dict from all numbers of runs, ascending, to how many tables of a shape have them."""
    check_shape(rows, values)
    found = {0: 1}
    for many in values:
        found = with_column(found, rows, many)
    return {runs: found[runs] for runs in sorted(found) if found[runs]}


def count_tables(rows, values, runs):
    """How many tables of a shape have so many runs."""
    found = tables_by_runs(rows, values)
    if not is_number(runs, 1, MOST_RUNS):
        raise BadSizes("not an integer from 1 to 40")
    return found.get(runs, 0)
