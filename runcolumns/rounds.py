"""Tables as rings, in which the first row follows the last one."""

from math import comb, gcd

from runcolumns.common import distance, is_number
from runcolumns.errors import BadSizes
from runcolumns.runs import cost
from runcolumns.tables import MOST_ROWS, Table, check_index, check_prices, check_table

MOST_RING_VALUES = 4


def around_cost(table, prices):
    """The cost of the changes around."""
    check_table(table)
    check_prices(table, prices)
    # The row with index -1 is the last one, which the first one follows.
    return sum([distance(table.rows[index - 1], row, prices) for index, row in enumerate(table.rows)])


def turn_costs(table, prices):
    """For each row, the cost of the runs of the turn that begins with it."""
    check_table(table)
    return [cost(turned_to(table, first), prices) for first in range(len(table))]


def best_begins(table, prices):
    """The ascending list of the rows with which the turns with the cheapest runs begin."""
    costs = turn_costs(table, prices)
    return [first for first, worth in enumerate(costs) if worth == min(costs)]


def least_around(table, prices):
    """The least cost of the runs of a turn."""
    return min(turn_costs(table, prices))


def turned_to(table, first):
    """The turn that begins with a row."""
    check_table(table)
    check_index(first, len(table) - 1)
    return Table(table.rows[first:] + table.rows[:first])


def all_turns(table):
    """The list of the tuples of the rows of all turns, by the rows with which they begin."""
    check_table(table)
    return [turned_to(table, first).rows for first in range(len(table))]


def period(table):
    """The least number of rows by which the ring can be rotated so that it stays the same."""
    turns = all_turns(table)
    return (turns[1:] + turns[:1]).index(turns[0]) + 1


def least_turn(table):
    """The index of the first row with which a turn with the least tuple of rows begins."""
    turns = all_turns(table)
    return turns.index(min(turns))


def are_one_ring(one, other):
    """Whether the second table is a turn of the first one."""
    check_table(one)
    check_table(other)
    return other.rows in all_turns(one)


def ways_around(steps, values):
    """In how many ways so many steps, each to another one of the values, come back to where they began."""
    back, away = values, 0
    for _ in range(steps):
        back, away = away, back * (values - 1) + away * (values - 2)
    return back


def ring_columns(many, values, changes):
    """The number of columns with so many rows and values, and so many changes in the ring."""
    return comb(many, changes) * ways_around(changes, values)


def count_rings(many, values, changes):
    """The number of columns, up to turning, with so many rows and values, and so many changes in the ring."""
    if not is_number(many, 1, MOST_ROWS) or not is_number(values, 1, MOST_RING_VALUES):
        raise BadSizes("not from 1 to 10 rows, or not from 1 to 4 values")
    check_index(changes, many)
    unchanged = 0
    for turn in range(1, many + 1):
        # A column that stays the same by a turn has the same part again and again, with its share of the changes.
        part = gcd(turn, many)
        if changes * part % many == 0:
            unchanged += ring_columns(part, values, changes * part // many)
    # Each column up to turning is counted once for each turn in this sum.
    return unchanged // many
