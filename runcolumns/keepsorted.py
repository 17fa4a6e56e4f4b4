"""Orders of the different rows in which a column never decreases, and the cheapest of them."""

from runcolumns.common import has_boolean
from runcolumns.ordering import Ways, checked_rows, distances, has_sum
from runcolumns.tables import check_column
from runcolumns.telling import all_columns

# More than all changes of an order can cost.
BACKWARD = 1000


class Within:
    """The cheapest order in which a column rises, and the smallest costs of going on so from each row."""

    def __init__(self, order, rest):
        self.order = tuple(order)
        self.rest = {key: rest[key] for key in rest}

    def __eq__(self, other):
        return isinstance(other, Within) and self.order == other.order and self.rest == other.rest

    def shows(self, table, prices, place):
        """Whether the dict has all smallest costs, and the order the smallest of all that keep the column rising."""
        ways = rising_ways(table, prices, place)
        if has_boolean(list(self.rest.items())) or self.rest != rising_rest(ways, place):
            return False
        return has_sum(ways, tuple(self.order), ways.least())


def rising_ways(table, prices, place):
    """The ways through the different rows, so dear where the column decreases that no cheapest way does so."""
    rows = checked_rows(table, prices)
    check_column(table, place)
    return ways_up(rows, prices, place)


def ways_up(rows, prices, place):
    """These ways, for arguments that have been checked."""
    costs = distances(rows, prices)
    return Ways(rows, {pair: costs[pair] + BACKWARD * int(pair[0][place] > pair[1][place]) for pair in costs})


def can_be_left(rows, place, lot, row):
    """Whether a lot without the row can be left after it, so that the column has risen and goes on rising."""
    if any([other[place] < row[place] for other in lot]):
        return False
    return all([other in lot for other in rows if other[place] > row[place]])


def rising_rest(ways, place):
    """The dict from all pairs of a lot that can be left after a row, and this row, to the smallest costs."""
    rest = ways.least_rest()
    return {(lot, row): rest[(lot, row)] for lot, row in rest if can_be_left(ways.parts, place, lot, row)}


def best_within(table, prices, place):
    """A Within with the first of the cheapest orders."""
    ways = rising_ways(table, prices, place)
    return Within(ways.order_at(ways.least(), 0), rising_rest(ways, place))


def least_within(table, prices, place):
    """What the changes cost at least, where the column never decreases."""
    return rising_ways(table, prices, place).least()


def cheapest_column(table, prices):
    """The ascending tuple of the columns that can be kept rising most cheaply."""
    rows = checked_rows(table, prices)
    costs = [ways_up(rows, prices, place).least() for place in all_columns(table)]
    return tuple([place for place, least in enumerate(costs) if least == min(costs)])
