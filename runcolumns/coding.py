"""Codes of values, by which asks for values have few stretches."""

from runcolumns.common import are_ascending, has_boolean, is_listing, is_number, is_order
from runcolumns.errors import BadAsks, BadOrder, BadSizes
from runcolumns.ordering import Ways
from runcolumns.tables import check_index

MOST_CODED = 7
MOST_ASKS = 6
TOP_ASK_PRICE = 9


class Code:
    """A best code, and the greatest gains of going on from each value through any others."""

    def __init__(self, order, gains):
        self.order = tuple(order)
        self.gains = {key: gains[key] for key in gains}

    def __eq__(self, other):
        return isinstance(other, Code) and self.order == other.order and self.gains == other.gains

    def shows(self, values, asks):
        """Whether the dict has all greatest gains, and the order is a best code."""
        ways = ways_of_codes(values, asks)
        if has_boolean(list(self.gains.items())) or self.gains != ways.greatest_rest():
            return False
        return is_best_code(ways, tuple(self.order))


def is_priced(ask, values):
    """Whether this is a pair of an ascending tuple of one or more values and a price."""
    if not isinstance(ask, tuple) or len(ask) != 2:
        return False
    return are_ascending(ask[0], 0, values - 1) and len(ask[0]) > 0 and is_number(ask[1], 1, TOP_ASK_PRICE)


def check_asks(values, asks):
    """Raise BadSizes or BadAsks if this is no number of values, or if these are no asks for them."""
    if not is_number(values, 1, MOST_CODED):
        raise BadSizes("not from 1 to 7 values")
    if not is_listing(asks, 0, MOST_ASKS):
        raise BadAsks(None)
    for index, ask in enumerate(asks):
        if not is_priced(ask, values):
            raise BadAsks(index)


def check_code(values, order):
    """Raise BadOrder if this is no code."""
    if not is_order(order, values):
        raise BadOrder("not a code")


def gain(asks, one, other):
    """What two values gain as neighbours."""
    return sum([price for asked, price in asks if one in asked and other in asked])


def ways_of_codes(values, asks):
    """All ways through the values, with the sums of what neighbours gain, if the arguments are right."""
    check_asks(values, asks)
    every = list(range(values))
    return Ways(every, {(one, other): gain(asks, one, other) for one in every for other in every})


def is_best_code(ways, order):
    """Whether this is a tuple that is a best code."""
    return is_order(order, len(ways.parts)) and ways.sum_of(order) == ways.greatest()


def best_code(values, asks):
    """A Code with the first best code."""
    ways = ways_of_codes(values, asks)
    return Code(ways.order_at(ways.greatest(), 0), ways.greatest_rest())


def least_stretches(values, asks):
    """What the stretches of all asks cost by a best code."""
    ways = ways_of_codes(values, asks)
    return sum([price * len(asked) for asked, price in asks]) - ways.greatest()


def asked_stretches(values, asks, order):
    """What the stretches of all asks cost by a code."""
    check_asks(values, asks)
    check_code(values, order)
    gained = sum([gain(asks, one, other) for one, other in zip(order, order[1:])])
    return sum([price * len(asked) for asked, price in asks]) - gained


def in_one(values, asks):
    """Whether there is a code by which each ask has just one stretch."""
    return least_stretches(values, asks) == sum([price for asked, price in asks])


def memberships(values, asks):
    """For each value, the list of the indices of the asks that contain it."""
    return [[index for index, ask in enumerate(asks) if value in ask[0]] for value in range(values)]


def alike(values, asks):
    """The list of the tuples of all values that are alike, by their first ones."""
    check_asks(values, asks)
    within = memberships(values, asks)
    families = [tuple([other for other in range(values) if within[other] == held]) for held in within]
    return [family for value, family in enumerate(families) if family[0] == value]


def count_codes(values, asks):
    """How many best codes there are."""
    ways = ways_of_codes(values, asks)
    return ways.orders[ways.greatest()]


def nth_code(values, asks, index):
    """The best code with an index."""
    ways = ways_of_codes(values, asks)
    check_index(index, ways.orders[ways.greatest()] - 1)
    return ways.order_at(ways.greatest(), index)


def code_index(values, asks, order):
    """The index of a best code."""
    ways = ways_of_codes(values, asks)
    if not is_best_code(ways, order):
        raise BadOrder("not a best code")
    return ways.index_of(order)
