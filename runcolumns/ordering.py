"""Best orders of the different rows, and ties that connect them."""

from runcolumns.common import choices, distance, has_boolean, is_row, picked, without
from runcolumns.errors import BadOrder
from runcolumns.tables import check_few, check_index, check_prices, check_table, different_rows


class Best:
    """A best order, and the smallest costs of going on from each row through any others."""

    def __init__(self, order, rest):
        self.order = tuple(order)
        self.rest = {key: rest[key] for key in rest}

    def __eq__(self, other):
        return isinstance(other, Best) and self.order == other.order and self.rest == other.rest

    def shows(self, table, prices):
        """Whether the dict has all smallest costs, and the order is a best order."""
        ways = ways_through(table, prices)
        if has_boolean(self.rest) or self.rest != ways.rest:
            return False
        return has_best(ways, tuple(self.order))


class Bound:
    """Ties that connect all different rows at the smallest total cost."""

    def __init__(self, ties):
        self.ties = list(ties)

    def __eq__(self, other):
        return isinstance(other, Bound) and self.ties == other.ties

    def shows(self, table, prices):
        """Whether the ties connect all different rows at the smallest total cost."""
        rows = checked_rows(table, prices)
        possible = all_ties(rows)
        if has_boolean(self.ties) or not all([tie in possible for tie in self.ties]):
            return False
        if len(self.ties) != len(rows) - 1 or len(walk(rows[0], self.ties)) != len(rows):
            return False
        return ties_cost(self.ties, prices) == ties_cost(shortest_ties(rows, prices), prices)


def checked_rows(table, prices):
    """The list of the different rows, if the arguments are right."""
    check_table(table)
    check_prices(table, prices)
    check_few(table)
    return different_rows(table)


class Ways:
    """The cheapest ways through ascending parts, where it is given what going from one to another costs.

    The part None stands for the beginning of an order, from which going to the first part costs nothing.
    """

    def __init__(self, parts, costs):
        self.parts = tuple(parts)
        self.costs = costs
        self.rest = {}
        self.many = {}
        # Shorter tuples come first, so that what is left after one more part is known already.
        for left in choices(self.parts):
            for part in self.parts:
                if part not in left:
                    self.rest[(left, part)] = self.cost_from(part, left)
                    self.many[(left, part)] = self.count_from(part, left)

    def cost_by(self, part, left, then):
        """The smallest cost of going from a part to one of those left, and through the others."""
        further = self.rest[(without(left, then), then)]
        if part is None:
            return further
        return self.costs[(part, then)] + further

    def cost_from(self, part, left):
        """The smallest cost of going from a part through all that are left."""
        return min([self.cost_by(part, left, then) for then in left], default=0)

    def nexts(self, part, left):
        """The ascending list of the parts by which cheapest ways go on from a part."""
        least = self.cost_from(part, left)
        return [then for then in left if self.cost_by(part, left, then) == least]

    def counts_by(self, left, thens):
        """The list of how many cheapest ways go on by each of some parts."""
        return [self.many[(without(left, then), then)] for then in thens]

    def count_from(self, part, left):
        """How many cheapest ways go from a part through all that are left."""
        if not left:
            return 1
        return sum(self.counts_by(left, self.nexts(part, left)))

    def least_cost(self):
        """The cost of a best order."""
        return self.cost_from(None, self.parts)

    def count_best(self):
        """How many best orders there are."""
        return self.count_from(None, self.parts)

    def order_at(self, index):
        """The best order with an index."""
        order, part, left = (), None, self.parts
        while left:
            nexts = self.nexts(part, left)
            at, index = picked(self.counts_by(left, nexts), index)
            part = nexts[at]
            order, left = order + (part,), without(left, part)
        return order

    def index_of(self, order):
        """The index of a best order."""
        index, part, left = 0, None, self.parts
        for then in order:
            index += sum(self.counts_by(left, [other for other in self.nexts(part, left) if other < then]))
            part, left = then, without(left, then)
        return index

    def is_best(self, order):
        """Whether an order of all parts is a best order."""
        return sum([self.costs[(one, other)] for one, other in zip(order, order[1:])]) == self.least_cost()


def ways_through(table, prices):
    """The cheapest ways through the different rows, if the arguments are right."""
    rows = checked_rows(table, prices)
    return Ways(rows, {(one, other): distance(one, other, prices) for one in rows for other in rows})


def has_best(ways, order):
    """Whether this is a tuple that is a best order of the rows."""
    if not isinstance(order, tuple) or not all([is_row(row) for row in order]):
        return False
    return sorted(order) == list(ways.parts) and ways.is_best(order)


def best_order(table, prices):
    """A Best with the first best order."""
    ways = ways_through(table, prices)
    return Best(ways.order_at(0), ways.rest)


def least_changes(table, prices):
    """What the changes of a best order cost."""
    return ways_through(table, prices).least_cost()


def count_best(table, prices):
    """How many best orders there are."""
    return ways_through(table, prices).count_best()


def nth_best(table, prices, index):
    """The best order with an index."""
    ways = ways_through(table, prices)
    check_index(index, ways.count_best() - 1)
    return ways.order_at(index)


def best_index(table, prices, order):
    """The index of a best order."""
    ways = ways_through(table, prices)
    if not has_best(ways, order):
        raise BadOrder("not a best order")
    return ways.index_of(order)


def all_ties(rows):
    """The ascending list of all ties of the ascending rows."""
    return [(one, other) for at, one in enumerate(rows) for other in rows[at + 1:]]


def ties_cost(ties, prices):
    """What ties cost together."""
    return sum([distance(one, other, prices) for one, other in ties])


def shortest_ties(rows, prices):
    """The ascending list of ties that connect all rows at the smallest total cost."""
    found = []
    for tie in sorted(all_ties(rows), key=lambda pair: ties_cost([pair], prices)):
        # A tie of two rows that are connected already would close a ring.
        if tie[1] not in walk(tie[0], found):
            found = found + [tie]
    return sorted(found)


def walk(first, ties):
    """The rows that can be reached from a row, in the order in which a walk along the ties visits them."""
    visited, waiting = [], [first]
    while waiting:
        row = waiting.pop()
        if row not in visited:
            visited.append(row)
            waiting.extend([other for tie in ties if row in tie for other in tie])
    return visited


def least_tree(table, prices):
    """A Bound with ties that connect all different rows at the smallest total cost."""
    return Bound(shortest_ties(checked_rows(table, prices), prices))


def least_ties(table, prices):
    """What the ties cost together that connect all different rows as cheaply as possible."""
    return ties_cost(shortest_ties(checked_rows(table, prices), prices), prices)


def round_order(table, prices):
    """An order of the different rows whose changes cost at most twice as much as such ties."""
    rows = checked_rows(table, prices)
    return tuple(walk(rows[0], shortest_ties(rows, prices)))
