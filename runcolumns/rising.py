"""Orders of rows along which columns rise together, and rows that cross."""

from runcolumns.common import are_ascending, is_number, is_order
from runcolumns.tables import check_some_columns, check_table
from runcolumns.telling import values_in


class Rising:
    """An order of the rows along which all given columns rise."""

    def __init__(self, order):
        self.order = tuple(order)

    def __eq__(self, other):
        return isinstance(other, Rising) and self.order == other.order

    def shows(self, table, places):
        """Whether this is an order of the rows along which all given columns rise."""
        rows = given_rows(table, places)
        order = tuple(self.order)
        return is_order(order, len(rows)) and rise(rows, order)


class Crossing:
    """Two rows that cross."""

    def __init__(self, one, other):
        self.one = one
        self.other = other

    def __eq__(self, other):
        return isinstance(other, Crossing) and self.one == other.one and self.other == other.other

    def shows(self, table, places):
        """Whether these are the indices of two rows that cross."""
        rows = given_rows(table, places)
        if not all([is_number(index, 0, len(rows) - 1) for index in (self.one, self.other)]):
            return False
        return cross(rows[self.one], rows[self.other])


class Risen:
    """As few pieces as possible along which all given columns rise, and as many rows that all cross."""

    def __init__(self, pieces, crossing):
        self.pieces = [tuple(piece) for piece in pieces]
        self.crossing = tuple(crossing)

    def __eq__(self, other):
        return isinstance(other, Risen) and self.pieces == other.pieces and self.crossing == other.crossing

    def shows(self, table, places):
        """Whether the pieces have each row once and rise, and whether as many rows all cross."""
        rows = given_rows(table, places)
        pieces, crossing = [tuple(piece) for piece in self.pieces], tuple(self.crossing)
        if not is_order(tuple([index for piece in pieces for index in piece]), len(rows)):
            return False
        if not all([len(piece) > 0 and rise(rows, piece) for piece in pieces]):
            return False
        if not are_ascending(crossing, 0, len(rows) - 1) or len(crossing) != len(pieces):
            return False
        return all([cross(rows[one], rows[other]) for one in crossing for other in crossing if one < other])


def given_rows(table, places):
    """The list of the values of each row in the given columns, if the arguments are right."""
    check_table(table)
    check_some_columns(table, places)
    return [values_in(row, places) for row in table.rows]


def rises(one, other):
    """Whether no value is smaller in the second row than in the first."""
    return all([before <= after for before, after in zip(one, other)])


def rise(rows, order):
    """Whether all columns rise along the rows with the indices."""
    return all([rises(rows[one], rows[other]) for one, other in zip(order, order[1:])])


def cross(one, other):
    """Whether two rows cross."""
    return not rises(one, other) and not rises(other, one)


def crossing_pairs(rows):
    """The list of the pairs of indices of rows that cross, the lesser index first."""
    many = len(rows)
    pairs = [(one, other) for one in range(many) for other in range(one + 1, many)]
    return [pair for pair in pairs if cross(rows[pair[0]], rows[pair[1]])]


def ranked(rows):
    """The list of the indices of the rows, sorted by the rows and then by the indices."""
    pairs = sorted([(row, index) for index, row in enumerate(rows)])
    return [place for _, place in pairs]


def rise_together(table, places):
    """A Rising if there is an order along which all given columns rise, otherwise a Crossing."""
    rows = given_rows(table, places)
    pairs = crossing_pairs(rows)
    if pairs:
        return Crossing(pairs[0][0], pairs[0][1])
    return Rising(ranked(rows))


def later_rows(rows):
    """For each row, the list of the rows that can stand behind it in a piece.

    Of equal rows only the one with the lesser index can stand ahead, so that no row gets behind itself.
    """
    order = ranked(rows)
    later = {}
    for at, index in enumerate(order):
        later[index] = [other for other in order[at + 1:] if rises(rows[index], rows[other])]
    return later


def find_next(index, later, ahead, tried):
    """Put a row ahead of a later one, moving others where needed; return whether that could be done.

    Ahead has, for each row that is not the first one of its piece, the row right ahead of it.
    """
    for other in later[index]:
        if other in tried:
            continue
        tried.append(other)
        if other not in ahead or find_next(ahead[other], later, ahead, tried):
            ahead[other] = index
            return True
    return False


def rows_ahead(rows):
    """The dict from all rows but the first ones of pieces to the rows ahead of them, for the fewest pieces."""
    later, ahead = later_rows(rows), {}
    for index in range(len(rows)):
        find_next(index, later, ahead, [])
    return ahead


def fewest_pieces(rows):
    """The list of the fewest tuples of indices, with each row in one of them, along which all columns rise."""
    ahead = rows_ahead(rows)
    behind = {index: other for other, index in ahead.items()}
    pieces = []
    for first in range(len(rows)):
        if first not in ahead:
            pieces.append(piece_from(first, behind))
    return pieces


def piece_from(first, behind):
    """The tuple of the indices from a first one on, where it is given which one stands behind each."""
    piece = (first,)
    while piece[-1] in behind:
        piece = piece + (behind[piece[-1]],)
    return piece


def most_crossing(rows):
    """A longest ascending tuple of indices of rows of which any two cross."""
    found = [()]
    for index, row in enumerate(rows):
        found = found + [some + (index,) for some in found if all([cross(rows[other], row) for other in some])]
    return max(found, key=len)


def cut_rising(table, places):
    """A Risen with as few pieces as possible."""
    rows = given_rows(table, places)
    return Risen(fewest_pieces(rows), most_crossing(rows))


def fewest_rising(table, places):
    """The smallest number of pieces along which all given columns rise."""
    return len(fewest_pieces(given_rows(table, places)))


def count_crossing(table, places):
    """How many pairs of rows cross."""
    return len(crossing_pairs(given_rows(table, places)))
