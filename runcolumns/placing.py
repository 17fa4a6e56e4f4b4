"""What rows cost that are put in, taken out or changed, and orders that grow row by row."""

from runcolumns.common import adjacent_distances, distance, is_number, is_order
from runcolumns.errors import BadIndex, TooLarge
from runcolumns.tables import MOST_ROWS, Table, check_column, check_index, check_prices, check_row, check_table
from runcolumns.tables import check_value


class Grown:
    """An order of the rows of a table, and the ties along which it has grown."""

    def __init__(self, order, ties):
        self.order = tuple(order)
        self.ties = list(ties)

    def __eq__(self, other):
        return isinstance(other, Grown) and self.order == other.order and self.ties == other.ties

    def shows(self, table, prices):
        """Whether each tie is a shortest one, and the order costs at most twice as much as all of them."""
        check_table(table)
        check_prices(table, prices)
        order = tuple(self.order)
        if not is_order(order, len(table)) or not are_shortest(table, prices, self.ties):
            return False
        walked = adjacent_distances([table.rows[index] for index in order], prices)
        return walked <= 2 * ties_cost(table, prices, self.ties)


def gap_cost(rows, index, row, prices):
    """By how much the cost of all runs increases if a row is put between rows of a table."""
    beside = rows[max(0, index - 1):index + 1]
    increase = sum([distance(row, neighbour, prices) for neighbour in beside])
    return increase - adjacent_distances(beside, prices)


def check_taken(table, index):
    """Raise BadIndex if this is not the index of a row that can be taken out."""
    check_index(index, len(table) - 1)
    if len(table) == 1:
        raise BadIndex("the only row is not taken out")


def check_room(table):
    """Raise TooLarge if no row can be put into the table."""
    if len(table) >= MOST_ROWS:
        raise TooLarge("the table has ten rows")


def rows_with(rows, index, row):
    """The rows with another one put in before the one with the index."""
    return rows[:index] + (row,) + rows[index:]


def rows_without(rows, index):
    """The rows except the one with the index."""
    return rows[:index] + rows[index + 1:]


def row_set(row, c, value):
    """The row with another value in a column."""
    return row[:c] + (value,) + row[c + 1:]


def put_cost(table, index, row, prices):
    """By how much the cost of all runs increases if a row is put in."""
    check_table(table)
    check_index(index, len(table))
    check_row(table, row)
    check_prices(table, prices)
    return gap_cost(table.rows, index, row, prices)


def take_cost(table, index, prices):
    """By how much the cost of all runs increases if a row is taken out."""
    check_table(table)
    check_taken(table, index)
    check_prices(table, prices)
    return -gap_cost(rows_without(table.rows, index), index, table.rows[index], prices)


def set_cost(table, index, c, value, prices):
    """By how much the cost of all runs increases if a row gets another value in a column."""
    check_table(table)
    check_index(index, len(table) - 1)
    check_column(table, c)
    check_value(value)
    check_prices(table, prices)
    row, others = table.rows[index], rows_without(table.rows, index)
    return gap_cost(others, index, row_set(row, c, value), prices) - gap_cost(others, index, row, prices)


def best_gaps(table, row, prices):
    """The ascending list of the indices at which a row that is put in increases the cost least."""
    check_table(table)
    check_row(table, row)
    check_prices(table, prices)
    increases = [gap_cost(table.rows, index, row, prices) for index in range(len(table) + 1)]
    return [index for index, increase in enumerate(increases) if increase == min(increases)]


def put_best(table, row, prices):
    """The table with a row put in at the first of the best indices."""
    index = best_gaps(table, row, prices)[0]
    check_room(table)
    return Table(rows_with(table.rows, index, row))


def tie_cost(table, prices, tie):
    """The distance of the two rows of a tie."""
    return distance(table.rows[tie[0]], table.rows[tie[1]], prices)


def ties_cost(table, prices, ties):
    """The sum of the distances of the rows of all ties."""
    return sum([tie_cost(table, prices, tie) for tie in ties])


def free_ties(table, present):
    """The list of all pairs of a row that is not present and one that is."""
    absent = [index for index in range(len(table)) if index not in present]
    return [(one, other) for one in absent for other in present]


def is_shortest(table, prices, present, tie):
    """Whether this ties a row that is not present to one that is, at the least distance."""
    candidates = free_ties(table, present)
    if tie not in candidates:
        return False
    return tie_cost(table, prices, tie) == min([tie_cost(table, prices, other) for other in candidates])


def are_shortest(table, prices, ties):
    """Whether the ties make all rows present, each at the least distance."""
    if len(ties) != len(table) - 1 or not all([is_tie(tie, len(table)) for tie in ties]):
        return False
    present = [0] + [tie[0] for tie in ties]
    return all([is_shortest(table, prices, present[:at + 1], tie) for at, tie in enumerate(ties)])


def is_tie(tie, many):
    """Whether this is a pair of indices below a number of rows."""
    return isinstance(tie, tuple) and len(tie) == 2 and all([is_number(index, 0, many - 1) for index in tie])


def grown_ties(table, prices):
    """The list of ties that each make the nearest row present that is not."""
    present, ties = [0], []
    for _ in range(len(table) - 1):
        tie = min(free_ties(table, present), key=lambda pair: tie_cost(table, prices, pair))
        present.append(tie[0])
        ties.append(tie)
    return ties


def grow(table, prices):
    """An order that grows by putting each row next to the one to which it is tied."""
    check_table(table)
    check_prices(table, prices)
    ties = grown_ties(table, prices)
    order = [0]
    for index, other in ties:
        rows = tuple([table.rows[placed] for placed in order])
        at = order.index(other)
        sides = [at, at + 1]
        order.insert(min(sides, key=lambda side: gap_cost(rows, side, table.rows[index], prices)), index)
    return Grown(order, ties)


def tree_cost(table, prices):
    """The sum of the distances of the ties by which an order grows."""
    check_table(table)
    check_prices(table, prices)
    return ties_cost(table, prices, grown_ties(table, prices))
