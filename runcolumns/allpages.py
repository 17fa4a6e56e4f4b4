"""What the runs of stretches of neighbouring rows cost."""

from runcolumns.runs import cost, runs_of_values
from runcolumns.tables import Table, check_stretch, check_table


def page_cost(table, first, past, prices):
    """The cost of the runs of the stretch from one index up to, but not including, a greater one."""
    check_table(table)
    check_stretch(table, first, past)
    return cost(Table(table.rows[first:past]), prices)


def all_cost(table, prices):
    """The sum of the costs of the runs of all stretches."""
    check_table(table)
    return sum([sum(sliding(table, wide, prices)) for wide in range(1, len(table) + 1)])


def sliding(table, wide, prices):
    """The list of the costs of the runs of all stretches of a width."""
    check_table(table)
    check_stretch(table, 0, wide)
    return [page_cost(table, first, first + wide, prices) for first in range(len(table) - wide + 1)]


def ends_of_most(table, wide, prices):
    """The ascending list of the first rows of the most expensive stretches of a width."""
    costs = sliding(table, wide, prices)
    return [first for first, worth in enumerate(costs) if worth == max(costs)]


def quiet(table):
    """The pair of the greatest width of a stretch of equal rows and the first row of the first such stretch."""
    check_table(table)
    runs = runs_of_values(table.rows)
    widths = [many for row, many in runs]
    widest = max(widths)
    return widest, sum(widths[:widths.index(widest)])
