"""Columns cut into pieces whose values go on by equal steps."""

from runcolumns.common import TOP_VALUE, are_ascending, count_ways, is_listing, is_number, way_at
from runcolumns.errors import BadRuns
from runcolumns.tables import MOST_ROWS, check_index, checked_column


class Sloped:
    """As few pieces as possible into which a column is cut, and marks of which no two are in one piece."""

    def __init__(self, pieces, marks):
        self.pieces = list(pieces)
        self.marks = tuple(marks)

    def __eq__(self, other):
        return isinstance(other, Sloped) and self.pieces == other.pieces and self.marks == other.marks

    def shows(self, table, place):
        """Whether the pieces have the values of the column, and the marks leave no way to do it with fewer."""
        values = checked_column(table, place)
        marks = tuple(self.marks)
        if not all([is_piece(piece) for piece in self.pieces]) or values_along(self.pieces) != values:
            return False
        if not are_ascending(marks, 0, len(values) - 1) or len(marks) != len(self.pieces):
            return False
        return not any([is_slope(values[first:last + 1]) for first, last in zip(marks, marks[1:])])


def is_piece(piece):
    """Whether this is a triple of a value, a step and a length that stands for values."""
    if not isinstance(piece, tuple) or len(piece) != 3:
        return False
    value, step, length = piece
    if not is_number(value, 0, TOP_VALUE) or not is_number(step, -TOP_VALUE, TOP_VALUE):
        return False
    if not is_number(length, 1, MOST_ROWS) or length == 1 and step != 0:
        return False
    return 0 <= value + step * (length - 1) <= TOP_VALUE


def values_along(pieces):
    """The list of the values of pieces that have been checked."""
    return [value + step * at for value, step, length in pieces for at in range(length)]


def steps_between(values):
    """The list of the differences of neighbouring values."""
    return [after - before for before, after in zip(values, values[1:])]


def is_slope(values):
    """Whether these are the values of a piece."""
    return len(set(steps_between(values))) <= 1


def piece_of(values):
    """The piece that has these values."""
    return values[0], sum(steps_between(values[:2])), len(values)


def pieces_from(values, starts):
    """The list of the pieces that begin at these rows."""
    return [piece_of(values[first:past]) for first, past in zip(starts, starts[1:] + (len(values),))]


def longest_pieces(values):
    """The tuple of the first rows of pieces that each go on for as long as possible."""
    starts = (0,)
    for index in range(len(values)):
        if not is_slope(values[starts[-1]:index + 1]):
            starts = starts + (index,)
    return starts


def starts_before(values):
    """For each number of first rows, the rows at which their last piece can begin if they have the fewest pieces."""
    fewest, before = [0], [[]]
    for past in range(1, len(values) + 1):
        starts = [first for first in range(past) if is_slope(values[first:past])]
        least = min([fewest[first] for first in starts])
        fewest.append(least + 1)
        before.append([first for first in starts if fewest[first] == least])
    return before


def cut_sloped(table, place):
    """A Sloped with as few pieces as possible."""
    values = checked_column(table, place)
    starts = longest_pieces(values)
    # Each piece had to end because the first value of the next one does not go on with its step.
    return Sloped(pieces_from(values, starts), starts)


def fewest_sloped(table, place):
    """The smallest number of pieces into which a column is cut."""
    return len(longest_pieces(checked_column(table, place)))


def count_sloped(table, place):
    """In how many ways a column can be cut into as few pieces as possible."""
    return count_ways(starts_before(checked_column(table, place)))[-1]


def differences(table, place):
    """The list of the differences of neighbouring values of a column."""
    return steps_between(checked_column(table, place))


def nth_sloped(table, place, index):
    """The list of the pieces of the cut with an index."""
    check_index(index, count_sloped(table, place) - 1)
    values = table.column(place)
    return pieces_from(values, way_at(starts_before(values), index))


def values_sloped(pieces):
    """The list of the values of pieces."""
    if not isinstance(pieces, (list, tuple)):
        raise BadRuns(None)
    for index, piece in enumerate(pieces):
        if not is_piece(piece):
            raise BadRuns(index)
    if not is_listing(pieces, 1, MOST_ROWS) or len(values_along(pieces)) > MOST_ROWS:
        raise BadRuns(None)
    return values_along(pieces)
