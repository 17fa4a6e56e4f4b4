"""[21] Steps."""

import itertools
import unittest

from runcolumns.errors import BadColumn, BadIndex, BadRuns, BadTable
from runcolumns.sloped import (
    Sloped, count_sloped, cut_sloped, differences, fewest_sloped, nth_sloped, values_sloped,
)
from runcolumns.tables import Table
from tests.cases import Case
from tests.samples import HUGE, NO_LISTINGS, NO_TABLES, ODD_ITEMS, columns_of, some_tables, wrong_numbers

EXAMPLES = """
>>> from runcolumns.sloped import Sloped, count_sloped, cut_sloped, differences, fewest_sloped, nth_sloped, values_sloped
>>> from runcolumns.tables import Table
>>> table = Table([(0,), (2,), (4,), (4,), (4,), (1,)])
>>> [fewest_sloped(table, 0), count_sloped(table, 0), nth_sloped(table, 0, 0), nth_sloped(table, 0, 3), differences(table, 0)]
[3, 4, [(0, 2, 2), (4, 0, 2), (4, -3, 2)], [(0, 2, 3), (4, 0, 2), (1, 0, 1)], [2, 2, 0, 0, -3]]
>>> [values_sloped([(0, 2, 3), (4, 0, 2)]), Sloped([(0, 2, 3), (4, 0, 2), (1, 0, 1)], (0, 3, 5)).shows(table, 0), cut_sloped(table, 0).shows(table, 0), Sloped([(0, 2, 3), (4, 0, 2), (1, 0, 1)], (0, 2, 5)).shows(table, 0)]
[[0, 2, 4, 4, 4], True, True, False]
"""


def column(*values):
    return Table([(value,) for value in values])


TABLE = column(0, 2, 4, 4, 4, 1)
SMALL = [column(*values) for many in range(1, 6) for values in itertools.product((0, 1, 3, 6), repeat=many)][::3]
TABLES = some_tables(many=60) + [
    column(0, 1, 2, 3, 4, 5, 6), column(6, 5, 4, 3, 2, 1, 0, 1, 2, 3), column(*[5] * 10), column(0, 6, 0, 6, 0, 6, 0, 6, 0, 6),
    column(0, 1, 3, 6, 2, 5, 0, 4, 1, 1), column(6, 0), column(0, 3, 6, 3, 0, 3, 6, 3, 0, 3),
]
PIECES = [(value, step, length) for value in range(7) for step in range(-6, 7) for length in range(1, 11)
          if 0 <= value + step * (length - 1) <= 6 and (length > 1 or step == 0)]


def piece_of(values):
    """The piece with some values, or None."""
    for piece in PIECES:
        if values == [piece[0] + piece[1] * at for at in range(piece[2])]:
            return piece
    return None


def all_cuts(values):
    """The first rows and the pieces of all cuts into as few pieces as possible, in their order."""
    many = len(values)
    for count in range(1, many + 1):
        found = []
        for starts in itertools.combinations(range(1, many), count - 1):
            ends = list(zip((0,) + starts, starts + (many,)))
            pieces = [piece_of(values[first:past]) for first, past in ends]
            if None not in pieces:
                found.append(((0,) + starts, pieces))
        if found:
            return sorted(found, key=lambda cut: cut[0][::-1])
    return None


class SlopedTest(Case):

    def test_examples(self):
        self.check_examples(EXAMPLES)

    def test_against_all_cuts(self):
        for table in SMALL + TABLES:
            for c in range(table.width):
                values = table.column(c)
                cuts = [pieces for _, pieces in all_cuts(values)]
                self.assertEqual(fewest_sloped(table, c), len(cuts[0]))
                self.assertEqual(count_sloped(table, c), len(cuts))
                self.assertEqual([nth_sloped(table, c, index) for index in range(len(cuts))], cuts)
                self.refused(BadIndex, nth_sloped, table, c, len(cuts))
                self.assertEqual(differences(table, c), [values[at + 1] - values[at] for at in range(len(values) - 1)])
                self.check_sloped(table, c, cuts)

    def check_sloped(self, table, c, cuts):
        found, values = cut_sloped(table, c), table.column(c)
        self.assertIn(found.pieces, cuts)
        self.assertIsInstance(found.marks, tuple)
        self.assertEqual(len(found.marks), len(found.pieces))
        self.assertEqual(found.marks, tuple(sorted(set(found.marks) & set(range(len(values))))))
        for one, other in zip(found.marks, found.marks[1:]):
            self.assertIsNone(piece_of(values[one:other + 1]))
        for pieces in cuts:
            self.assertTrue(Sloped(pieces, found.marks).shows(table, c))
            self.assertEqual(values_sloped(pieces), values)

    def test_some_columns(self):
        self.assertEqual(nth_sloped(column(5), 0, 0), [(5, 0, 1)])
        self.assertEqual(nth_sloped(column(6, 0), 0, 0), [(6, -6, 2)])
        self.assertEqual(nth_sloped(column(6, 5, 4, 3), 0, 0), [(6, -1, 4)])
        self.assertEqual((differences(column(5), 0), differences(column(6, 0, 6), 0)), ([], [-6, 6]))
        self.assertEqual(nth_sloped(column(*[5] * 10), 0, 0), [(5, 0, 10)])
        cuts = [nth_sloped(column(0, 1, 3, 4), 0, index) for index in range(count_sloped(column(0, 1, 3, 4), 0))]
        self.assertEqual(cuts, [[(0, 1, 2), (3, 1, 2)]])
        self.assertEqual(nth_sloped(column(0, 1, 3), 0, 0), [(0, 0, 1), (1, 2, 2)])
        self.assertEqual(nth_sloped(column(0, 1, 3), 0, 1), [(0, 1, 2), (3, 0, 1)])

    def test_values_of_all_pieces(self):
        for value, step, length in itertools.product(range(-1, 8), range(-8, 9), range(0, 12)):
            values = [value + step * at for at in range(length)]
            right = (value, step, length) in PIECES
            self.assertEqual(right, bool(values) and length <= 10 and all(0 <= held <= 6 for held in values)
                             and (length > 1 or step == 0))
            if right:
                self.assertEqual(values_sloped([(value, step, length)]), values)
                self.assertEqual(values_sloped(((value, step, length),)), values)
                self.assertTrue(Sloped([(value, step, length)], (0,)).shows(column(*values), 0))
            else:
                self.assertEqual(self.refused(BadRuns, values_sloped, [(value, step, length)]).index, 0)
                self.assertFalse(Sloped([(value, step, length)], (0,)).shows(column(0), 0))

    def test_pieces_need_not_be_as_few_as_possible(self):
        self.assertEqual(values_sloped([(3, 0, 1)] * 10), [3] * 10)
        self.assertEqual(values_sloped([(0, 1, 3), (3, 1, 2)]), [0, 1, 2, 3, 4])


class MarksTest(Case):

    def test_all_marks_are_judged(self):
        for table in SMALL[::4] + [TABLE]:
            values = table.column(0)
            cuts = all_cuts(values)
            for some in columns_of(len(values)):
                right = len(some) == len(cuts[0][0])
                right = right and all(piece_of(values[one:other + 1]) is None for one, other in zip(some, some[1:]))
                for _, pieces in cuts:
                    self.assertEqual(Sloped(pieces, some).shows(table, 0), right)
                    self.assertEqual(Sloped(pieces, list(some)).shows(table, 0), right)

    def test_only_the_right_pieces(self):
        right = [(0, 2, 3), (4, 0, 2), (1, 0, 1)]
        self.assertTrue(Sloped(right, (0, 3, 5)).shows(TABLE, 0))
        wrong = [[], right[:2], right[1:], right + right[2:], right[::-1], [(0, 2, 3), (4, 0, 2), (1, 1, 1)], [(0, 2, 3)] * 3]
        wrong += [[(0, 2, 3), (4, 0, 2), (2, 0, 1)], [(0, 2, 3), (4, 0, 1), (1, 0, 2)], [(0, 2, 3), (4, 0, 2), (1, 0, 1, 0)]]
        wrong += [[(0, 2, 3), (4, 0, 2), (1, 0)], [(0, 2, 3), (4, 0, 2), ()], [(0, 2, 3), (4, 0, 2), (1, 0, 0), (1, 0, 1)]]
        wrong += [[(0, 2, 3), (4, 0, 2), (True, 0, 1)], [(0, 2, 3), (4, False, 2), (1, 0, 1)], [(False, 2, 3)] + right[1:]]
        wrong += [[(0, 2, 3), (4, 0, 2), (1, 0, True)], [(0, 2, 3), (4, 0, 2), (1, HUGE, 1)], [(0, 2, 3), (4, 0, HUGE)]]
        wrong += [[(0, 2, 3), (4, 0, 2), (1, 0, 1), (7, 0, 1)], [(0, 2, 3), (4, 0, 2), (HUGE, 0, 1)]]
        for pieces in wrong:
            self.assertFalse(Sloped(pieces, (0, 3, 5)).shows(TABLE, 0), pieces)
        for pieces in ([(0, 2, 2), (4, 0, 3), (1, 0, 1)], [(0, 2, 3), (4, 0, 1), (4, -3, 2)]):
            self.assertTrue(Sloped(pieces, (0, 3, 5)).shows(TABLE, 0))
        four = [(0, 2, 2), (4, 0, 1), (4, 0, 2), (1, 0, 1)]
        for some in itertools.combinations(range(6), 4):
            self.assertFalse(Sloped(four, some).shows(TABLE, 0))

    def test_only_the_right_marks(self):
        pieces = [(0, 2, 3), (4, 0, 2), (1, 0, 1)]
        wrong = [(), (0, 3), (0, 5, 3), (0, 3, 3), (0, 3, 6), (-1, 3, 5), (0, 3, HUGE), (False, 3, 5), (0, 3, 4), (0, 3, 4, 5)]
        for marks in wrong + [(1, 2, 5), (0, 1, 5), (3, 4, 5), (5, 3, 0)]:
            self.assertFalse(Sloped(pieces, marks).shows(TABLE, 0), marks)
            self.assertFalse(Sloped(pieces, list(marks)).shows(TABLE, 0), marks)
        table = Table([(value, 0) for value in TABLE.column(0)])
        self.assertTrue(Sloped(pieces, (0, 3, 5)).shows(table, 0))
        self.assertFalse(Sloped(pieces, (0, 3, 5)).shows(table, 1))

    def test_current_attributes_are_judged(self):
        found = cut_sloped(TABLE, 0)
        found.pieces, found.marks = nth_sloped(TABLE, 0, 0), [0, 3, 5]
        self.assertTrue(found.shows(TABLE, 0))
        found.pieces.append((0, 0, 1))
        self.assertFalse(found.shows(TABLE, 0))

    def test_copies(self):
        pieces, marks = [(0, 0, 1)], [0]
        found = Sloped(pieces, marks)
        pieces.clear()
        marks.clear()
        self.assertEqual((found.pieces, found.marks), ([(0, 0, 1)], (0,)))
        cut_sloped(TABLE, 0).pieces.clear()
        nth_sloped(TABLE, 0, 0).clear()
        differences(TABLE, 0).clear()
        given = [(0, 2, 3)]
        values_sloped(given).clear()
        self.assertEqual((given, values_sloped(given)), ([(0, 2, 3)], [0, 2, 4]))
        self.assertEqual((len(cut_sloped(TABLE, 0).pieces), len(nth_sloped(TABLE, 0, 0))), (3, 3))

    def test_equal(self):
        self.check_equality(
            lambda: Sloped([(0, 0, 1)], [0]), lambda: Sloped([], (0,)), lambda: Sloped([(0, 0, 1)], ()),
            lambda: Sloped([(1, 0, 1)], (0,)),
        )
        self.assertEqual(cut_sloped(TABLE, 0), cut_sloped(TABLE, 0))
        self.assertEqual(Sloped(((0, 0, 1),), [0]), Sloped([(0, 0, 1)], (0,)))


class SlopedErrorsTest(Case):

    def test_wrong_arguments(self):
        for table in (TABLE, Table([(0, 1, 2, 3)] * 10), column(0, 1, 3), column(5)):
            arguments = (table, BadTable, NO_TABLES), (table.width - 1, BadColumn, wrong_numbers(0, table.width - 1))
            for call in (cut_sloped, fewest_sloped, count_sloped, differences, Sloped([], ()).shows):
                self.check_arguments(call, *arguments)
            highest = count_sloped(table, table.width - 1) - 1
            self.check_arguments(nth_sloped, *arguments, (highest, BadIndex, wrong_numbers(0, highest)))

    def test_what_is_no_list_of_pieces(self):
        one = (3, 0, 1)
        for wrong in NO_LISTINGS + [[], (), [one] * 11, (one,) * 11, [(0, 1, 7), (3, 0, 4)], [(3, 0, 10), one], [one] * 1000]:
            self.assertIsNone(self.refused(BadRuns, values_sloped, wrong).index)

    def test_index_of_the_first_that_is_no_piece(self):
        one = (3, 0, 1)
        wrong = [(), (3,), (3, 0), (3, 0, 1, 0), [3, 0, 1], (3, 1, 1), (3, 0, 0), (3, 0, 11), (3, 2, 3), (3, -2, 3), (7, 0, 1)]
        wrong += [(-1, 1, 2), (6, 1, 2), (0, -1, 2), (3, HUGE, 2), (3, 0, HUGE), {3: 0}, "301", b"301", {3, 0, 1}, 3]
        wrong += ODD_ITEMS + [(item, 0, 1) for item in ODD_ITEMS] + [(3, item, 1) for item in ODD_ITEMS]
        wrong += [(3, 0, item) for item in ODD_ITEMS] + [(False, 1, 2), (0, True, 2), (3, False, 1), (3, 0, True)]
        for piece in wrong:
            for at in (0, 1, 5, 20):
                pieces = [one] * at + [piece, one, None]
                self.assertEqual(self.refused(BadRuns, values_sloped, pieces).index, at, piece)
                self.assertEqual(self.refused(BadRuns, values_sloped, tuple(pieces)).index, at, piece)


if __name__ == "__main__":
    unittest.main()
