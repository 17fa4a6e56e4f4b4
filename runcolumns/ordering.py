"""Best orders of the different rows, and ties that connect them."""

from runcolumns.common import adjacent_distances, choices, distance, has_boolean, is_row, without
from runcolumns.errors import BadOrder
from runcolumns.tables import check_few, check_index, check_prices, check_table, different_rows


class Best:
    """A best order, and the smallest costs of going on from each row through any others."""

    def __init__(self, order, rest):
        self.order = tuple(order)
        self.rest = {key: rest[key] for key in rest}

    def __eq__(self, other):
        return isinstance(other, Best) and self.order == other.order and self.rest == other.rest

    def shows(self, table, prices):
        """Whether the dict has all smallest costs, and the order is a best order."""
        ways = ways_through(table, prices)
        if has_boolean(self.rest) or self.rest != ways.rest:
            return False
        return ways.has_best(tuple(self.order))


class Bound:
    """Ties that connect all different rows at the smallest total cost."""

    def __init__(self, ties):
        self.ties = list(ties)

    def __eq__(self, other):
        return isinstance(other, Bound) and self.ties == other.ties

    def shows(self, table, prices):
        """Whether the ties connect all different rows at the smallest total cost."""
        rows = checked_rows(table, prices)
        possible = all_ties(rows)
        if has_boolean(self.ties) or not all([tie in possible for tie in self.ties]):
            return False
        if len(self.ties) != len(rows) - 1 or len(walk(rows[0], self.ties)) != len(rows):
            return False
        return ties_cost(self.ties, prices) == ties_cost(shortest_ties(rows, prices), prices)


def checked_rows(table, prices):
    """The list of the different rows, if the arguments are right."""
    check_table(table)
    check_prices(table, prices)
    check_few(table)
    return different_rows(table)


class Ways:
    """The cheapest ways through the ascending different rows of a table.

    The row None stands for the beginning of an order, from which the first row costs nothing.
    """

    def __init__(self, rows, prices):
        self.rows = tuple(rows)
        self.prices = prices
        self.rest = {}
        self.many = {}
        # Shorter tuples come first, so that what is left after one more row is known already.
        for left in choices(rows):
            for row in rows:
                if row not in left:
                    self.rest[(left, row)] = self.cost_from(row, left)
                    self.many[(left, row)] = self.count_from(row, left)

    def cost_by(self, row, left, then):
        """The smallest cost of going from a row to one of those left, and through the others."""
        further = self.rest[(without(left, then), then)]
        if row is None:
            return further
        return distance(row, then, self.prices) + further

    def cost_from(self, row, left):
        """The smallest cost of going from a row through all that are left."""
        return min([self.cost_by(row, left, then) for then in left], default=0)

    def nexts(self, row, left):
        """The ascending list of the rows by which cheapest ways go on from a row."""
        least = self.cost_from(row, left)
        return [then for then in left if self.cost_by(row, left, then) == least]

    def count_by(self, left, thens):
        """How many cheapest ways go on by one of some rows."""
        return sum([self.many[(without(left, then), then)] for then in thens])

    def count_from(self, row, left):
        """How many cheapest ways go from a row through all that are left."""
        if not left:
            return 1
        return self.count_by(left, self.nexts(row, left))

    def order_at(self, index):
        """The best order with an index."""
        order, row, left = (), None, self.rows
        while left:
            nexts = self.nexts(row, left)
            passed = [at for at in range(len(nexts)) if self.count_by(left, nexts[:at + 1]) <= index]
            index -= self.count_by(left, nexts[:len(passed)])
            row = nexts[len(passed)]
            order, left = order + (row,), without(left, row)
        return order

    def index_of(self, order):
        """The index of a best order."""
        index, row, left = 0, None, self.rows
        for then in order:
            index += self.count_by(left, [other for other in self.nexts(row, left) if other < then])
            row, left = then, without(left, then)
        return index

    def has_best(self, order):
        """Whether this is a tuple that is a best order."""
        if not isinstance(order, tuple) or not all([is_row(row) for row in order]):
            return False
        if sorted(order) != list(self.rows):
            return False
        return adjacent_distances(order, self.prices) == self.cost_from(None, self.rows)


def ways_through(table, prices):
    """The cheapest ways through the different rows, if the arguments are right."""
    return Ways(checked_rows(table, prices), prices)


def best_order(table, prices):
    """A Best with the first best order."""
    ways = ways_through(table, prices)
    return Best(ways.order_at(0), ways.rest)


def least_changes(table, prices):
    """What the changes of a best order cost."""
    ways = ways_through(table, prices)
    return ways.cost_from(None, ways.rows)


def count_best(table, prices):
    """How many best orders there are."""
    ways = ways_through(table, prices)
    return ways.count_from(None, ways.rows)


def nth_best(table, prices, index):
    """The best order with an index."""
    ways = ways_through(table, prices)
    check_index(index, ways.count_from(None, ways.rows) - 1)
    return ways.order_at(index)


def best_index(table, prices, order):
    """The index of a best order."""
    ways = ways_through(table, prices)
    if not ways.has_best(order):
        raise BadOrder("not a best order")
    return ways.index_of(order)


def all_ties(rows):
    """The ascending list of all ties of the ascending rows."""
    return [(one, other) for at, one in enumerate(rows) for other in rows[at + 1:]]


def ties_cost(ties, prices):
    """What ties cost together."""
    return sum([distance(one, other, prices) for one, other in ties])


def shortest_ties(rows, prices):
    """The ascending list of ties that connect all rows at the smallest total cost."""
    found = []
    for tie in sorted(all_ties(rows), key=lambda pair: ties_cost([pair], prices)):
        # A tie of two rows that are connected already would close a ring.
        if tie[1] not in walk(tie[0], found):
            found = found + [tie]
    return sorted(found)


def walk(first, ties):
    """The rows that can be reached from a row, in the order in which a walk along the ties visits them."""
    visited, waiting = [], [first]
    while waiting:
        row = waiting.pop()
        if row not in visited:
            visited.append(row)
            waiting.extend([other for tie in ties if row in tie for other in tie])
    return visited


def least_tree(table, prices):
    """A Bound with ties that connect all different rows at the smallest total cost."""
    return Bound(shortest_ties(checked_rows(table, prices), prices))


def least_ties(table, prices):
    """What the ties cost together that connect all different rows as cheaply as possible."""
    return ties_cost(shortest_ties(checked_rows(table, prices), prices), prices)


def round_order(table, prices):
    """An order of the different rows whose changes cost at most twice as much as such ties."""
    rows = checked_rows(table, prices)
    return tuple(walk(rows[0], shortest_ties(rows, prices)))
