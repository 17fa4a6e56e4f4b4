"""Columns kept together in groups, and what their runs cost."""

from runcolumns.asks import piece_starts
from runcolumns.common import choices, has_boolean
from runcolumns.errors import BadOrder
from runcolumns.tables import check_some_columns, check_table
from runcolumns.telling import all_columns


class Grouped:
    """Groups of all columns with the smallest total cost, and the smallest costs for all lots of columns."""

    def __init__(self, groups, lots):
        self.groups = tuple([tuple(group) for group in groups])
        self.lots = {columns: lots[columns] for columns in lots}

    def __eq__(self, other):
        return isinstance(other, Grouped) and self.groups == other.groups and self.lots == other.lots

    def shows(self, table):
        """Whether the dict has the smallest costs for all lots, and the groups the one for all columns."""
        check_table(table)
        groups = tuple([tuple(group) for group in self.groups])
        lots = least_costs(table)
        if has_boolean(groups) or has_boolean(list(self.lots.items())) or self.lots != lots:
            return False
        every = all_columns(table)
        return groups in groupings(every) and total_cost(table, groups) == lots[every]


def check_groups(table, groups):
    """Raise the first error that is named, if these are no groups of all columns."""
    if not isinstance(groups, tuple) or not all([isinstance(group, tuple) for group in groups]):
        raise BadOrder("not a tuple of tuples")
    for group in groups:
        check_some_columns(table, group)
    if groups not in groupings(all_columns(table)):
        raise BadOrder("not in order, or not each column in just one group")


def groupings(columns):
    """The ascending list of all tuples of groups of some ascending columns."""
    if not columns:
        return [()]
    found = []
    for some in choices(columns[1:]):
        rest = tuple([c for c in columns[1:] if c not in some])
        found = found + [(columns[:1] + some,) + groups for groups in groupings(rest)]
    return sorted(found)


def runs_of_group(table, group):
    """The number of the runs of a group."""
    return len(piece_starts(table, group))


def cost_of_group(table, group):
    """What the runs of a group cost."""
    return runs_of_group(table, group) * (len(group) + 1)


def total_cost(table, groups):
    """What the runs of groups cost together."""
    return sum([cost_of_group(table, group) for group in groups])


def least_costs(table):
    """The dict from all ascending tuples of columns to the smallest total costs of groups of them."""
    lots = {}
    for columns in choices(all_columns(table)):
        lots[columns] = min([total_cost(table, groups) for groups in groupings(columns)])
    return lots


def cheapest_groupings(table):
    """The ascending list of all groups of all columns with the smallest total cost."""
    every = groupings(all_columns(table))
    least = min([total_cost(table, groups) for groups in every])
    return [groups for groups in every if total_cost(table, groups) == least]


def best_groups(table):
    """A Grouped with the first groups that have the smallest total cost."""
    check_table(table)
    return Grouped(cheapest_groupings(table)[0], least_costs(table))


def least_grouped(table):
    """What the best groups cost together."""
    check_table(table)
    return least_costs(table)[all_columns(table)]


def all_groupings(table):
    """The ascending list of all tuples of groups of the columns."""
    check_table(table)
    return groupings(all_columns(table))


def count_best_groups(table):
    """How many groups of all columns have the smallest total cost."""
    check_table(table)
    return len(cheapest_groupings(table))


def group_runs(table, places):
    """How many runs a group has."""
    check_table(table)
    check_some_columns(table, places)
    return runs_of_group(table, places)


def group_cost(table, places):
    """What the runs of a group cost."""
    check_table(table)
    check_some_columns(table, places)
    return cost_of_group(table, places)


def grouped_cost(table, groups):
    """What groups cost together."""
    check_table(table)
    check_groups(table, groups)
    return total_cost(table, groups)
