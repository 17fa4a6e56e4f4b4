"""Columns by how often each value occurs, and by how many runs they have."""

from math import comb

from runcolumns.common import are_numbers, has_boolean, is_listing, is_number, lowest_terms, picked
from runcolumns.errors import BadCounts, BadSizes
from runcolumns.runs import runs_of_values
from runcolumns.tables import check_index

MOST_VALUES = 7
MOST_CELLS = 12
MOST_LENGTH = 40


class Spread:
    """A column with the greatest possible number of runs for its counts."""

    def __init__(self, cells):
        self.cells = tuple(cells)

    def __eq__(self, other):
        return isinstance(other, Spread) and self.cells == other.cells

    def shows(self, counts):
        """Whether this is a column with the counts and with the greatest number of runs."""
        check_counts(counts)
        if has_boolean(self.cells) or sorted(self.cells) != sorted_cells(counts):
            return False
        return len(runs_of_values(self.cells)) == most_runs(counts)


class Arrangements:
    """How many ways there are to go on with a column, each number reckoned once."""

    def __init__(self):
        self.known = {}

    def ways(self, same, others, runs):
        """How many ways begin so many more runs.

        The last value is left over as often as same says, the other values as often as the ascending others say.
        """
        if runs < 0:
            return 0
        if not same and not others:
            return int(runs == 0)
        key = (same, others, runs)
        if key not in self.known:
            self.known[key] = self.ways_on(same, others, runs) + self.ways_off(same, others, runs)
        return self.known[key]

    def ways_on(self, same, others, runs):
        """How many of these ways go on with the last value."""
        if not same:
            return 0
        return self.ways(same - 1, others, runs)

    def ways_off(self, same, others, runs):
        """How many of these ways go on with another value."""
        total = 0
        for at, many in enumerate(others):
            rest = others[:at] + others[at + 1:] + (same,)
            total += self.ways(many - 1, kept(rest), runs - 1)
        return total

    def ways_by_value(self, left, last, runs):
        """For each value, how many ways go on with it, where all values are left over so often.

        The last value is None at the beginning of a column.
        """
        found = []
        for value, many in enumerate(left):
            others = left[:value] + left[value + 1:]
            found.append(self.ways(many - 1, kept(others), runs - int(value != last)) if many else 0)
        return found


def lowered(counts, at):
    """The counts with the one at a place lowered by 1."""
    return counts[:at] + (counts[at] - 1,) + counts[at + 1:]


def kept(counts):
    """The ascending tuple of the counts other than 0."""
    return tuple(sorted([many for many in counts if many]))


def check_counts(counts):
    """Raise BadCounts if these are no counts."""
    if not is_listing(counts, 1, MOST_VALUES) or not are_numbers(tuple(counts), 1, MOST_CELLS):
        raise BadCounts("not one to seven integers of at least 1")
    if sum(counts) > MOST_CELLS:
        raise BadCounts("a sum greater than 12")


def check_runs_with(counts, runs):
    """Raise BadCounts or BadSizes if these are no counts, or not a number of runs for them."""
    check_counts(counts)
    if not is_number(runs, 1, sum(counts)):
        raise BadSizes("not an integer from 1 to the sum of the counts")


def sorted_cells(counts):
    """The list of the values of a column with the counts, ascending."""
    return [value for value, many in enumerate(counts) for _ in range(many)]


def average_runs(counts):
    """The average number of runs of the columns with the counts, as a numerator and a denominator."""
    check_counts(counts)
    cells = sum(counts)
    # Of all ordered pairs of cells, those with equal values begin no run where they are neighbours.
    return lowest_terms(cells * (cells + 1) - sum([count * count for count in counts]), cells)


def most_runs(counts):
    """The greatest number of runs of a column with the counts."""
    check_counts(counts)
    cells, most = sum(counts), max(counts)
    # Cells of the most frequent value can only be kept apart by cells of other values.
    return min(cells, 2 * (cells - most) + 1)


def spread(counts):
    """A Spread with the first column that has the greatest number of runs."""
    return Spread(nth_spread(counts, most_runs(counts), 0))


def count_spread(counts, runs):
    """How many columns with the counts have so many runs."""
    check_runs_with(counts, runs)
    return Arrangements().ways(0, kept(counts), runs)


def nth_spread(counts, runs, index):
    """The column with an index among those with the counts and so many runs."""
    check_runs_with(counts, runs)
    arrangements = Arrangements()
    check_index(index, arrangements.ways(0, kept(counts), runs) - 1)
    left, last, column = tuple(counts), None, ()
    while any(left):
        value, index = picked(arrangements.ways_by_value(left, last, runs), index)
        runs -= int(value != last)
        left, last, column = lowered(left, value), value, column + (value,)
    return column


def counts_of(column):
    """The tuple of the counts of a column, if it is one."""
    if not are_numbers(column, 0, MOST_VALUES - 1) or not 1 <= len(column) <= MOST_CELLS:
        raise BadCounts("not a tuple of one to twelve values")
    values = sorted(set(column))
    if values != list(range(len(values))):
        raise BadCounts("a value is left out")
    return tuple([column.count(value) for value in values])


def spread_index(column):
    """The index of a column among those with the same counts and the same number of runs."""
    left, last, index = counts_of(column), None, 0
    runs = len(runs_of_values(column))
    arrangements = Arrangements()
    for value in column:
        index += sum(arrangements.ways_by_value(left, last, runs)[:value])
        runs -= int(value != last)
        left, last = lowered(left, value), value
    return index


def count_columns(rows, values, runs):
    """How many tuples of so many values, from 0 on, have so many runs."""
    if not is_number(rows, 1, MOST_LENGTH) or not is_number(values, 1, MOST_VALUES):
        raise BadSizes("not from 1 to 40 rows, or not from 1 to 7 values")
    if not is_number(runs, 1, rows):
        raise BadSizes("not an integer from 1 to the number of rows")
    many = comb(rows - 1, runs - 1) * values
    for _ in range(runs - 1):
        many = many * (values - 1)
    return many
