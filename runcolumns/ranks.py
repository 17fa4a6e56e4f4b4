"""Ranks, middles and frequent values of columns."""

from runcolumns.tables import check_index, check_value, checked_column


def checked_values(table, c, value):
    """The list of the values of a column, if the arguments are right."""
    values = checked_column(table, c)
    check_value(value)
    return values


def count_of(table, c, value):
    """The number of rows that have a value in a column."""
    return checked_values(table, c, value).count(value)


def far_from(table, c, value):
    """The sum of the distances of the values of a column from a value."""
    return sum([abs(held - value) for held in checked_values(table, c, value)])


def rank_at(table, c, value, index):
    """The number of rows before an index that have a value."""
    values = checked_values(table, c, value)
    check_index(index, len(values))
    return values[:index].count(value)


def row_with(table, c, value, number):
    """The index of the row that has a value and so many such rows before it."""
    values = checked_values(table, c, value)
    check_index(number, values.count(value) - 1)
    return [index for index, held in enumerate(values) if held == value][number]


def nth_value(table, c, number):
    """The value with a number among the sorted values of a column."""
    values = checked_column(table, c)
    check_index(number, len(values) - 1)
    return sorted(values)[number]


def middles(table, c):
    """The pair of the middles of a column."""
    values = sorted(checked_column(table, c))
    return values[(len(values) - 1) // 2], values[len(values) // 2]


def frequent(table, c):
    """The ascending list of the most frequent values of a column."""
    values = checked_column(table, c)
    most = max([values.count(value) for value in values])
    return [value for value in sorted(set(values)) if values.count(value) == most]


def majority(table, c):
    """The value that more than half of the rows have, or None."""
    values = checked_column(table, c)
    value = frequent(table, c)[0]
    if 2 * values.count(value) > len(values):
        return value
    return None
