"""Full rows in steps of one change, and orders of rows with one change per step."""

from runcolumns.common import are_ascending, are_numbers, differing, is_number, is_order
from runcolumns.errors import BadRow, BadSizes
from runcolumns.tables import check_few, check_index, check_table, different_rows

MOST_SIZES = 4
TOP_SIZE = 7


class Stepped:
    """A stepped order of the rows of a table."""

    def __init__(self, order):
        self.order = tuple(order)

    def __eq__(self, other):
        return isinstance(other, Stepped) and self.order == other.order

    def shows(self, table):
        """Whether the order is a stepped order of the rows of the table."""
        check_table(table)
        check_few(table)
        order = tuple(self.order)
        return is_order(order, len(table)) and is_stepped([table.rows[index] for index in order])


class Stuck:
    """Beginnings by which no order of the rows of a table is stepped."""

    def __init__(self, beginnings):
        self.beginnings = list(beginnings)

    def __eq__(self, other):
        return isinstance(other, Stuck) and self.beginnings == other.beginnings

    def shows(self, table):
        """Whether these are beginnings that show that there is no stepped order."""
        check_table(table)
        check_few(table)
        rows = different_rows(table)
        if not all([is_beginning(begun, len(rows)) for begun in self.beginnings]):
            return False
        listed = {begun: True for begun in self.beginnings}
        if any([len(indices) == len(rows) for indices, last in listed]):
            return False
        needed = first_beginnings(rows)
        for begun in listed:
            needed = needed + longer_beginnings(rows, begun)
        return all([begun in listed for begun in needed])


def check_sizes(sizes):
    """Raise BadSizes if these are no sizes."""
    if not are_numbers(sizes, 1, TOP_SIZE) or not 1 <= len(sizes) <= MOST_SIZES:
        raise BadSizes("not a tuple of one to four integers from 1 to 7")


def count_full(sizes):
    """The number of the full rows; one, the empty row, where there are no sizes."""
    many = 1
    for size in sizes:
        many = many * size
    return many


def full_row(sizes, index):
    """The full row with this index."""
    check_sizes(sizes)
    check_index(index, count_full(sizes) - 1)
    row = ()
    for at in range(len(sizes)):
        many = count_full(sizes[at + 1:])
        row = row + (index // many,)
        index = turned_index(row[at], index % many, many)
    return row


def full_index(sizes, row):
    """The index of a full row."""
    check_sizes(sizes)
    if not are_numbers(row, 0, TOP_SIZE) or len(row) != len(sizes):
        raise BadRow("not a row of these sizes")
    if any([value >= size for value, size in zip(row, sizes)]):
        raise BadRow("not a full row")
    index = 0
    for at in reversed(range(len(sizes))):
        many = count_full(sizes[at + 1:])
        index = row[at] * many + turned_index(row[at], index, many)
    return index


def turned_index(value, index, many):
    """The index among the remaining values, which are in reverse order behind an odd value."""
    if value & 1:
        return many - 1 - index
    return index


def is_stepped(rows):
    """Whether equal rows are adjacent and all other adjacent rows differ in one column."""
    firsts = [row for at, row in enumerate(rows) if at == 0 or rows[at - 1] != row]
    if len(set(firsts)) != len(firsts):
        return False
    return all([differing(one, other) == 1 for one, other in zip(firsts, firsts[1:])])


def is_beginning(begun, many):
    """Whether this is a beginning, where there are so many different rows."""
    if not isinstance(begun, tuple) or len(begun) != 2:
        return False
    return are_ascending(begun[0], 0, many - 1) and is_number(begun[1], 0, many - 1) and begun[1] in begun[0]


def first_beginnings(rows):
    """The list of the beginnings with one index."""
    return [((index,), index) for index in range(len(rows))]


def longer_beginnings(rows, begun):
    """The list of the beginnings with one index more than this one."""
    indices, last = begun
    nexts = [at for at, row in enumerate(rows) if at not in indices and differing(rows[last], row) == 1]
    return [(tuple(sorted(indices + (at,))), at) for at in nexts]


def reached_paths(rows):
    """A dict from all beginnings that can be reached to a tuple of indices that reaches it."""
    paths = {begun: (begun[1],) for begun in first_beginnings(rows)}
    waiting = list(paths)
    while waiting:
        begun = waiting.pop()
        for longer in longer_beginnings(rows, begun):
            if longer not in paths:
                paths[longer] = paths[begun] + (longer[1],)
                waiting.append(longer)
    return paths


def step(table):
    """A Stepped with a stepped order of the rows, or a Stuck if there is none."""
    check_table(table)
    check_few(table)
    rows = different_rows(table)
    paths = reached_paths(rows)
    for path in paths.values():
        if len(path) == len(rows):
            firsts = [rows[index] for index in path]
            return Stepped([index for row in firsts for index in range(len(table)) if table.rows[index] == row])
    return Stuck(list(paths))


def can_step(table):
    """Whether there is a stepped order of the rows."""
    return isinstance(step(table), Stepped)


def count_stepped(table):
    """The number of orders of the different rows in which adjacent rows differ in one column."""
    check_table(table)
    check_few(table)
    rows = different_rows(table)
    ways = {begun: 1 for begun in first_beginnings(rows)}
    for _ in range(len(rows) - 1):
        ways = longer_ways(rows, ways)
    return sum(list(ways.values()))


def longer_ways(rows, ways):
    """From how often beginnings are reached, how often those with one index more are."""
    longer_by = {}
    for begun in ways:
        for longer in longer_beginnings(rows, begun):
            longer_by[longer] = longer_by.get(longer, 0) + ways[begun]
    return longer_by


def even_and_odd(table):
    """The pair of the numbers of different rows with an even and with an odd sum of values."""
    check_table(table)
    check_few(table)
    rows = different_rows(table)
    odd = len([row for row in rows if sum(row) & 1])
    return len(rows) - odd, odd
