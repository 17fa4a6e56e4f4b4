"""Rows that can stay where a column is made to rise, and the moves of the others."""

from runcolumns.common import are_ascending, count_ways, is_order, way_at
from runcolumns.tables import check_index, checked_column


class Kept:
    """As many rows as can stay together, and as many piles of which each lets only one row stay."""

    def __init__(self, stays, piles):
        self.stays = tuple(stays)
        self.piles = [tuple(pile) for pile in piles]

    def __eq__(self, other):
        return isinstance(other, Kept) and self.stays == other.stays and self.piles == other.piles

    def shows(self, table, place):
        """Whether the rows can stay together, and as many piles have each row once and decrease."""
        values = checked_column(table, place)
        stays, piles = tuple(self.stays), self.piles
        if not are_ascending(stays, 0, len(values) - 1) or len(stays) != len(piles):
            return False
        if not all([values[one] <= values[other] for one, other in zip(stays, stays[1:])]):
            return False
        if not is_order(tuple([index for pile in piles for index in pile]), len(values)):
            return False
        return all([is_pile(values, pile) for pile in piles])


def is_pile(values, pile):
    """Whether this is not empty, and ascends while the values strictly decrease."""
    if not pile:
        return False
    return all([one < other and values[one] > values[other] for one, other in zip(pile, pile[1:])])


def longest_to(values):
    """For each row, the greatest number of rows that can stay together and end with it."""
    longest = []
    for value in values:
        fitting = [many for at, many in enumerate(longest) if values[at] <= value]
        longest.append(1 + max(fitting, default=0))
    return longest


def rows_before(values):
    """For each place of a way, the places right before it; ways go through the rows that can stay.

    A way begins at place 0, goes on with the row with index 0 as place 1, and so on, and ends behind the last row.
    """
    longest = longest_to(values)
    before = [[]]
    for index, value in enumerate(values):
        ahead = [at for at in range(index) if values[at] <= value and longest[at] == longest[index] - 1]
        before.append([at + 1 for at in ahead] or [0])
    ends = [at + 1 for at, many in enumerate(longest) if many == max(longest)]
    return before + [ends]


def stays_at(values, index):
    """The tuple with an index of as many rows as possible that can stay together."""
    return tuple([place - 1 for place in way_at(rows_before(values), index) if place > 0])


def pile_up(values):
    """The list of the fewest tuples of indices, with each row in one of them, along which the values decrease."""
    piles = []
    for index, value in enumerate(values):
        fitting = [at for at, pile in enumerate(piles) if values[pile[-1]] > value]
        if fitting:
            piles[fitting[0]] = piles[fitting[0]] + (index,)
        else:
            piles.append((index,))
    return piles


def keep_rows(table, place):
    """A Kept with the first tuple of as many rows as possible."""
    values = checked_column(table, place)
    return Kept(stays_at(values, 0), pile_up(values))


def longest_rising(table, place):
    """The greatest number of rows that can stay together."""
    return max(longest_to(checked_column(table, place)))


def fewest_moves(table, place):
    """The smallest number of moves by which a column is made to rise."""
    return len(checked_column(table, place)) - longest_rising(table, place)


def count_kept(table, place):
    """How many tuples of as many rows as possible can stay together."""
    return count_ways(rows_before(checked_column(table, place)))[-1]


def nth_kept(table, place, index):
    """The tuple with an index of as many rows as possible that can stay together."""
    check_index(index, count_kept(table, place) - 1)
    return stays_at(table.column(place), index)


def sort_moves(table, place):
    """The list of as few moves as possible by which the column is made to rise."""
    values = checked_column(table, place)
    settled = list(stays_at(values, 0))
    current, moves = list(range(len(values))), []
    for row in range(len(values)):
        if row not in settled:
            index = current.index(row)
            current.remove(row)
            late = place_among(values, current, settled, row)
            current.insert(late, row)
            settled.append(row)
            moves.append((index, late))
    return moves


def place_among(values, current, settled, row):
    """The place right behind the last settled row that a row may stand behind."""
    fitting = [at for at, other in enumerate(current) if other in settled and values[other] <= values[row]]
    return max(fitting, default=-1) + 1
