"""All orders of the different rows by what their changes cost, and the worst of them."""

from runcolumns.common import has_boolean, is_number, lowest_terms
from runcolumns.errors import BadOrder, BadSizes
from runcolumns.ordering import has_sum, is_order_of, ways_through
from runcolumns.tables import check_index


class Worst:
    """An order that costs most, and the greatest costs of going on from each row through any others."""

    def __init__(self, order, rest):
        self.order = tuple(order)
        self.rest = {key: rest[key] for key in rest}

    def __eq__(self, other):
        return isinstance(other, Worst) and self.order == other.order and self.rest == other.rest

    def shows(self, table, prices):
        """Whether the dict has all greatest costs, and no order costs more than this one."""
        ways = ways_through(table, prices)
        if has_boolean(list(self.rest.items())) or self.rest != ways.greatest_rest():
            return False
        return has_sum(ways, tuple(self.order), ways.greatest())


def orders_by_changes(table, prices):
    """The dict from all costs of orders, ascending, to how many orders have them."""
    orders = ways_through(table, prices).orders
    return {worth: orders[worth] for worth in sorted(orders)}


def average_changes(table, prices):
    """The average cost of all orders, as a numerator and a denominator."""
    orders = ways_through(table, prices).orders
    return lowest_terms(sum([worth * orders[worth] for worth in orders]), sum(list(orders.values())))


def worst_order(table, prices):
    """A Worst with the first order that costs most."""
    ways = ways_through(table, prices)
    return Worst(ways.order_at(ways.greatest(), 0), ways.greatest_rest())


def most_changes(table, prices):
    """What the changes of an order cost at most."""
    return ways_through(table, prices).greatest()


def nth_with_changes(table, prices, cost, index):
    """The order with an index among those with a cost."""
    ways = ways_through(table, prices)
    if not is_number(cost, ways.least(), ways.greatest()) or cost not in ways.orders:
        raise BadSizes("no order costs so much")
    check_index(index, ways.orders[cost] - 1)
    return ways.order_at(cost, index)


def changes_index(table, prices, order):
    """The index of an order among those with its cost."""
    ways = ways_through(table, prices)
    if not is_order_of(ways.parts, order):
        raise BadOrder("not an order of the different rows")
    return ways.index_of(order)
