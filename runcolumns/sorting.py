"""Rows sorted by orders of the columns, and how many runs they have then."""

from runcolumns.common import has_boolean, is_order
from runcolumns.errors import BadOrder
from runcolumns.runs import all_runs, cost
from runcolumns.stepping import check_sizes, count_full
from runcolumns.tables import Table, check_prices, check_table
from runcolumns.telling import all_columns, values_in


class Sorts:
    """An order of the columns with the smallest cost of all runs, and the costs for all orders."""

    def __init__(self, places, sums):
        self.places = tuple(places)
        self.sums = {order: sums[order] for order in sums}

    def __eq__(self, other):
        return isinstance(other, Sorts) and self.places == other.places and self.sums == other.sums

    def shows(self, table, prices):
        """Whether the dict has the costs for all orders, and the order has the smallest of them."""
        sums = sorted_costs(table, prices)
        if has_boolean(list(self.sums.items())) or self.sums != sums:
            return False
        places = tuple(self.places)
        return is_order(places, table.width) and sums[places] == min(list(sums.values()))


def check_places(places, width):
    """Raise BadOrder if this is no order of so many columns."""
    if not is_order(places, width):
        raise BadOrder("not an order of the columns")


def orders_of(parts):
    """The ascending list of all tuples that contain each of the ascending parts once."""
    found = [()]
    for _ in parts:
        found = [order + (part,) for order in found for part in parts if part not in order]
    return found


def sorted_table(table, places):
    """The table with its rows sorted, if the arguments are right."""
    check_table(table)
    check_places(places, table.width)
    ranked = sorted([(values_in(row, places), row) for row in table.rows])
    return Table([row for prefix, row in ranked])


def sort_rows(table, places):
    """The list of the rows sorted by an order of the columns."""
    return list(sorted_table(table, places).rows)


def sorted_runs(table, places):
    """The tuple of the numbers of runs of all columns when the rows are sorted by an order of the columns."""
    return tuple([len(runs) for runs in all_runs(sorted_table(table, places))])


def beginnings(table, places):
    """The tuple of how many different prefixes with one, two and so on columns there are."""
    check_table(table)
    check_places(places, table.width)
    lengths = [at + 1 for at in range(len(places))]
    return tuple([len(set([values_in(row, places[:length]) for row in table.rows])) for length in lengths])


def sorted_costs(table, prices):
    """The dict from all orders of the columns to the cost of all runs when the rows are sorted by them."""
    check_table(table)
    check_prices(table, prices)
    return {places: cost(sorted_table(table, places), prices) for places in orders_of(all_columns(table))}


def best_sort(table, prices):
    """A Sorts with the first order of the columns that has the smallest cost."""
    sums = sorted_costs(table, prices)
    least = min(list(sums.values()))
    return Sorts([places for places in sums if sums[places] == least][0], sums)


def full_column_runs(sizes, places, c):
    """How many runs a column of a full table has that is sorted by an order of its columns."""
    if sizes[c] == 1:
        return 1
    # With two values or more, the column changes wherever the prefixes that end with it do.
    upto = places[:places.index(c) + 1]
    return count_full([sizes[place] for place in upto])


def full_runs(sizes, places):
    """The tuple of the numbers of runs of a full table that is sorted by an order of its columns."""
    check_sizes(sizes)
    check_places(places, len(sizes))
    return tuple([full_column_runs(sizes, places, c) for c in range(len(sizes))])


def full_best(sizes):
    """The least number of runs of a full table, over all orders of its columns."""
    check_sizes(sizes)
    return min([sum(full_runs(sizes, places)) for places in orders_of(list(range(len(sizes))))])
