"""Best orders of the different rows, and ties that connect them."""

from runcolumns.common import choices, distance, has_boolean, is_row, picked, without
from runcolumns.errors import BadOrder
from runcolumns.tables import check_few, check_index, check_prices, check_table, different_rows


class Best:
    """A best order, and the smallest costs of going on from each row through any others."""

    def __init__(self, order, rest):
        self.order = tuple(order)
        self.rest = {key: rest[key] for key in rest}

    def __eq__(self, other):
        return isinstance(other, Best) and self.order == other.order and self.rest == other.rest

    def shows(self, table, prices):
        """Whether the dict has all smallest costs, and the order is a best order."""
        ways = ways_through(table, prices)
        if has_boolean(self.rest) or self.rest != ways.least_rest():
            return False
        return has_sum(ways, tuple(self.order), ways.least())


class Bound:
    """Ties that connect all different rows at the smallest total cost."""

    def __init__(self, ties):
        self.ties = list(ties)

    def __eq__(self, other):
        return isinstance(other, Bound) and self.ties == other.ties

    def shows(self, table, prices):
        """Whether the ties connect all different rows at the smallest total cost."""
        rows = checked_rows(table, prices)
        possible = all_ties(rows)
        if has_boolean(self.ties) or not all([tie in possible for tie in self.ties]):
            return False
        if len(self.ties) != len(rows) - 1 or len(walk(rows[0], self.ties)) != len(rows):
            return False
        return ties_cost(self.ties, prices) == ties_cost(shortest_ties(rows, prices), prices)


def checked_rows(table, prices):
    """The list of the different rows, if the arguments are right."""
    check_table(table)
    check_prices(table, prices)
    check_few(table)
    return different_rows(table)


class Ways:
    """All ways through ascending parts, where it is given what going from one part to another adds to a sum.

    many has, for each pair of an ascending tuple of parts and a part that is not in it, a dict from the sums of the
    ways from this part through all others, each once, to how many of them have these sums. orders is the like for
    orders of all parts.
    """

    def __init__(self, parts, steps):
        self.parts = tuple(parts)
        self.steps = steps
        self.many = {}
        # Shorter tuples come first, so that what is left after one more part is known already.
        for left in choices(self.parts):
            for part in self.parts:
                if part not in left:
                    self.many[(left, part)] = self.many_from(part, left)
        self.orders = self.many_from(None, self.parts)

    def step(self, part, then):
        """What going from one part to another adds; None stands for the beginning of an order, which adds nothing."""
        if part is None:
            return 0
        return self.steps[(part, then)]

    def many_from(self, part, left):
        """The dict from the sums of the ways from a part through all that are left to how many have them."""
        if not left:
            return {0: 1}
        found = {}
        for then in left:
            step = self.step(part, then)
            for further, many in self.many[(without(left, then), then)].items():
                found[step + further] = found.get(step + further, 0) + many
        return found

    def many_by(self, part, left, total):
        """For each part that is left, how many of the ways with a sum go on with it."""
        return [self.many[(without(left, then), then)].get(total - self.step(part, then), 0) for then in left]

    def least(self):
        """The least sum of all orders."""
        return min(list(self.orders))

    def greatest(self):
        """The greatest sum of all orders."""
        return max(list(self.orders))

    def least_rest(self):
        """The dict from all pairs of a tuple of parts and a part to the least sums of the ways from it."""
        return {pair: min(list(self.many[pair])) for pair in self.many}

    def greatest_rest(self):
        """The dict from all pairs of a tuple of parts and a part to the greatest sums of the ways from it."""
        return {pair: max(list(self.many[pair])) for pair in self.many}

    def sum_of(self, order):
        """The sum of an order of all parts."""
        return sum([self.step(part, then) for part, then in zip(order, order[1:])])

    def order_at(self, total, index):
        """The order with an index among those with a sum."""
        order, part, left = (), None, self.parts
        while left:
            at, index = picked(self.many_by(part, left, total), index)
            total -= self.step(part, left[at])
            part = left[at]
            order, left = order + (part,), without(left, part)
        return order

    def index_of(self, order):
        """The index of an order among those with its sum."""
        total, index, part, left = self.sum_of(order), 0, None, self.parts
        for then in order:
            index += sum(self.many_by(part, left, total)[:left.index(then)])
            total -= self.step(part, then)
            part, left = then, without(left, then)
        return index


def distances(rows, prices):
    """The dict from all pairs of rows to their distances."""
    return {(one, other): distance(one, other, prices) for one in rows for other in rows}


def ways_through(table, prices):
    """All ways through the different rows, with the sums of their distances, if the arguments are right."""
    rows = checked_rows(table, prices)
    return Ways(rows, distances(rows, prices))


def is_order_of(rows, order):
    """Whether this is a tuple that contains each of the ascending rows once."""
    if not isinstance(order, tuple) or not all([is_row(row) for row in order]):
        return False
    return sorted(order) == list(rows)


def has_sum(ways, order, total):
    """Whether this is a tuple that is an order of the rows with a sum."""
    return is_order_of(ways.parts, order) and ways.sum_of(order) == total


def best_order(table, prices):
    """A Best with the first best order."""
    ways = ways_through(table, prices)
    return Best(ways.order_at(ways.least(), 0), ways.least_rest())


def least_changes(table, prices):
    """What the changes of a best order cost."""
    return ways_through(table, prices).least()


def count_best(table, prices):
    """How many best orders there are."""
    ways = ways_through(table, prices)
    return ways.orders[ways.least()]


def nth_best(table, prices, index):
    """The best order with an index."""
    ways = ways_through(table, prices)
    check_index(index, ways.orders[ways.least()] - 1)
    return ways.order_at(ways.least(), index)


def best_index(table, prices, order):
    """The index of a best order."""
    ways = ways_through(table, prices)
    if not has_sum(ways, order, ways.least()):
        raise BadOrder("not a best order")
    return ways.index_of(order)


def all_ties(rows):
    """The ascending list of all ties of the ascending rows."""
    return [(one, other) for at, one in enumerate(rows) for other in rows[at + 1:]]


def ties_cost(ties, prices):
    """What ties cost together."""
    return sum([distance(one, other, prices) for one, other in ties])


def shortest_ties(rows, prices):
    """The ascending list of ties that connect all rows at the smallest total cost."""
    found = []
    for tie in sorted(all_ties(rows), key=lambda pair: ties_cost([pair], prices)):
        # A tie of two rows that are connected already would close a ring.
        if tie[1] not in walk(tie[0], found):
            found = found + [tie]
    return sorted(found)


def walk(first, ties):
    """The rows that can be reached from a row, in the order in which a walk along the ties visits them."""
    visited, waiting = [], [first]
    while waiting:
        row = waiting.pop()
        if row not in visited:
            visited.append(row)
            waiting.extend([other for tie in ties if row in tie for other in tie])
    return visited


def least_tree(table, prices):
    """A Bound with ties that connect all different rows at the smallest total cost."""
    return Bound(shortest_ties(checked_rows(table, prices), prices))


def least_ties(table, prices):
    """What the ties cost together that connect all different rows as cheaply as possible."""
    return ties_cost(shortest_ties(checked_rows(table, prices), prices), prices)


def round_order(table, prices):
    """An order of the different rows whose changes cost at most twice as much as such ties."""
    rows = checked_rows(table, prices)
    return tuple(walk(rows[0], shortest_ties(rows, prices)))
