"""[20] Moving rows."""

import itertools
import unittest

from runcolumns.errors import BadColumn, BadIndex, BadTable
from runcolumns.moving import Kept, count_kept, fewest_moves, keep_rows, longest_rising, nth_kept, sort_moves
from runcolumns.tables import Table
from tests.cases import Case
from tests.samples import HUGE, NO_TABLES, columns_of, some_tables, wrong_numbers

EXAMPLES = """
>>> from runcolumns.moving import Kept, count_kept, fewest_moves, keep_rows, longest_rising, nth_kept, sort_moves
>>> from runcolumns.tables import Table
>>> table = Table([(3,), (1,), (2,), (2,), (0,)])
>>> [longest_rising(table, 0), fewest_moves(table, 0), count_kept(table, 0), nth_kept(table, 0, 0), len(sort_moves(table, 0)), count_kept(Table([(1,), (0,), (2,)]), 0)]
[3, 2, 1, (1, 2, 3), 2, 2]
>>> [Kept((1, 2, 3), [(0, 1, 4), (2,), (3,)]).shows(table, 0), Kept((1, 2), [(0, 1, 4), (2, 3)]).shows(table, 0), keep_rows(table, 0).shows(table, 0), nth_kept(Table([(1,), (0,), (2,)]), 0, 1)]
[True, False, True, (1, 2)]
"""


def column(*values):
    return Table([(value,) for value in values])


TABLE = column(3, 1, 2, 2, 0)
SMALL = [column(*values) for many in range(1, 6) for values in itertools.product(range(3), repeat=many)]
TABLES = some_tables(many=60) + [
    column(6, 5, 4, 3, 2, 1, 0), column(0, 1, 2, 3, 4, 5, 6, 6, 6, 6), column(2, 1, 0, 5, 4, 3, 6, 6, 5, 5),
    column(1, 0, 3, 2, 5, 4, 6, 5, 6, 5), column(*[4] * 10), Table([(0, 5), (1, 4), (0, 4), (1, 3)]),
]


def rises(values, some):
    return all(values[one] <= values[other] for one, other in zip(some, some[1:]))


def all_kept(values):
    """All largest sets of rows that can stay together, in their order."""
    for many in range(len(values), 0, -1):
        found = [some for some in itertools.combinations(range(len(values)), many) if rises(values, some)]
        if found:
            return sorted(found, key=lambda some: some[::-1])
    return None


def all_piles(values):
    """All lists of piles, up to their order."""
    found = [[]]
    for index, value in enumerate(values):
        longer = []
        for piles in found:
            longer.append(piles + [(index,)])
            for at, pile in enumerate(piles):
                if values[pile[-1]] > value:
                    longer.append(piles[:at] + [pile + (index,)] + piles[at + 1:])
        found = longer
    return found


class MovingTest(Case):

    def test_examples(self):
        self.check_examples(EXAMPLES)

    def test_against_all_sets_of_rows(self):
        for table in SMALL + TABLES:
            for c in range(table.width):
                kept = all_kept(table.column(c))
                self.assertEqual(longest_rising(table, c), len(kept[0]))
                self.assertEqual(fewest_moves(table, c), len(table) - len(kept[0]))
                self.assertEqual(count_kept(table, c), len(kept))
                self.assertEqual([nth_kept(table, c, index) for index in range(len(kept))], kept)
                self.refused(BadIndex, nth_kept, table, c, len(kept))
                self.check_kept(table, c, kept)

    def check_kept(self, table, c, kept):
        found, values = keep_rows(table, c), table.column(c)
        self.assertIn(found.stays, kept)
        self.assertEqual(len(found.piles), len(found.stays))
        self.assertIsInstance(found.piles, list)
        self.assertEqual(sorted(index for pile in found.piles for index in pile), list(range(len(table))))
        for pile in found.piles:
            self.assertIsInstance(pile, tuple)
            self.assertEqual(pile, tuple(sorted(pile)))
            self.assertTrue(pile and all(values[one] > values[other] for one, other in zip(pile, pile[1:])))
        for stays in kept:
            self.assertTrue(Kept(stays, found.piles[::-1]).shows(table, c))

    def test_order_of_what_stays(self):
        table = column(1, 0, 3, 2)
        self.assertEqual(count_kept(table, 0), 4)
        self.assertEqual([nth_kept(table, 0, at) for at in range(4)], [(0, 2), (1, 2), (0, 3), (1, 3)])
        self.assertEqual(count_kept(column(6, 5, 4, 3, 2, 1, 0), 0), 7)
        self.assertEqual(nth_kept(column(6, 5, 4, 3, 2, 1, 0), 0, 6), (6,))
        self.assertEqual((count_kept(column(*[4] * 10), 0), nth_kept(column(*[4] * 10), 0, 0)), (1, tuple(range(10))))
        self.assertEqual((keep_rows(column(4), 0).stays, keep_rows(column(4), 0).piles), ((0,), [(0,)]))

    def test_moves_done_one_by_one(self):
        for table in SMALL + TABLES:
            for c in range(table.width):
                moves, values = sort_moves(table, c), table.column(c)
                self.assertEqual(len(moves), fewest_moves(table, c))
                for index, late in moves:
                    self.assertTrue(0 <= index < len(values) and 0 <= late < len(values))
                    self.assertNotEqual(index, late)
                    values.insert(late, values.pop(index))
                self.assertEqual(values, sorted(values))
                self.assertTrue(all(isinstance(move, tuple) for move in moves))

    def test_nothing_to_move(self):
        for table in (column(0), column(6, 6, 6), column(0, 0, 1, 2, 6)):
            self.assertEqual((sort_moves(table, 0), fewest_moves(table, 0)), ([], 0))


class KeptTest(Case):

    def test_all_rows_and_piles_are_judged(self):
        for table in SMALL[::5]:
            values = table.column(0)
            kept, every = all_kept(values), all_piles(values)
            fewest = min(every, key=len)
            self.assertEqual(len(fewest), len(kept[0]))
            for some in columns_of(len(table)):
                self.assertEqual(Kept(some, fewest).shows(table, 0), some in kept)
                self.assertEqual(Kept(list(some), fewest).shows(table, 0), some in kept)
            for piles in every:
                right = len(piles) == len(fewest)
                self.assertEqual(Kept(kept[0], piles).shows(table, 0), right)
                self.assertEqual(Kept(kept[0], [list(pile) for pile in piles][::-1]).shows(table, 0), right)

    def test_only_the_right_piles(self):
        right = [(0, 1, 4), (2,), (3,)]
        for piles in itertools.permutations(right):
            self.assertTrue(Kept((1, 2, 3), piles).shows(TABLE, 0))
        wrong = [[], right[:2], right + [()], [(0, 1, 4), (2, 3), ()], [(0, 1, 4), (2, 3)], [(1, 0, 4), (2,), (3,)]]
        wrong += [[(0, 1), (2,), (3,)], [(0, 1, 4), (2, 4), (3,)], [(0, 1, 4), (2,), (2,)], [(0, 1, 4), (2,), (3, 5)]]
        wrong += [[(0, 1, 4), (2,), (3, HUGE)], [(0, 1, 4), (2,), (-2,)], [(0, True, 4), (2,), (3,)], [(0, 1, 4), (3, 2), ()]]
        wrong += [[(0,), (1, 4), (2,), (3,)], [(False, 1, 4), (2,), (3,)], [(0, 1), (2,), (3,), (4,)], [(4, 1, 0), (2,), (3,)]]
        for piles in wrong:
            self.assertFalse(Kept((1, 2, 3), piles).shows(TABLE, 0), piles)
        self.assertTrue(Kept((1, 2, 3), [(0, 1), (2, 4), (3,)]).shows(TABLE, 0))
        self.assertFalse(Kept((0,), [(1, 0)]).shows(column(0, 1), 0))
        self.assertFalse(Kept((1,), [[1, 0]]).shows(column(0, 1), 0))
        self.assertFalse(Kept((0, 1), [(2, 0), (1,)]).shows(column(0, 0, 5), 0))

    def test_only_the_right_rows(self):
        piles = [(0, 1, 4), (2,), (3,)]
        wrong = [(), (1, 2), (1, 3, 2), (0, 1, 2), (1, 2, 2), (1, 2, 4), (1, 2, 5), (-4, 2, 3), (True, 2, 3), (1, 2, 3, 3)]
        wrong += [(-1, 2, 3), (-2, -1, 3), (-3, 3)]
        for stays in wrong + [(1, 2, HUGE), (2, 3), (0, 2, 3), (3, 2, 1)]:
            self.assertFalse(Kept(stays, piles).shows(TABLE, 0), stays)
        self.assertFalse(Kept((1, 2), [(0, 1, 4), (2, 3)]).shows(TABLE, 0))
        self.assertFalse(Kept((1, 2), [(0, 1, 4), (2,)]).shows(TABLE, 0))

    def test_the_column_counts(self):
        table = Table([(0, 5), (1, 4), (0, 4), (1, 3)])
        for c in (0, 1):
            self.assertTrue(keep_rows(table, c).shows(table, c))
            self.assertFalse(keep_rows(table, c).shows(table, 1 - c))

    def test_current_attributes_are_judged(self):
        found = keep_rows(TABLE, 0)
        found.stays, found.piles = [1, 2, 3], [[3, 4], [0, 1], [2]]
        self.assertTrue(found.shows(TABLE, 0))
        found.piles[2].append(3)
        self.assertFalse(found.shows(TABLE, 0))

    def test_copies(self):
        stays, pile = [1], [0, 1]
        piles = [pile]
        found = Kept(stays, piles)
        for held in (stays, pile, piles):
            held.clear()
        self.assertEqual((found.stays, found.piles), ((1,), [(0, 1)]))
        keep_rows(TABLE, 0).piles.clear()
        sort_moves(TABLE, 0).clear()
        self.assertEqual((len(sort_moves(TABLE, 0)), len(keep_rows(TABLE, 0).piles)), (2, 3))

    def test_equal(self):
        self.check_equality(
            lambda: Kept([0], [(0,)]), lambda: Kept((1,), [(0,)]), lambda: Kept((0,), [(1,)]), lambda: Kept((0,), []))
        self.assertEqual(Kept([0], [[0]]), Kept((0,), ((0,),)))
        self.assertEqual(keep_rows(TABLE, 0), keep_rows(TABLE, 0))


class MovingErrorsTest(Case):

    def test_wrong_arguments(self):
        for table in (TABLE, Table([(0, 1, 2, 3)] * 10), column(0, 1, 0), column(5)):
            arguments = (table, BadTable, NO_TABLES), (table.width - 1, BadColumn, wrong_numbers(0, table.width - 1))
            for call in (keep_rows, longest_rising, fewest_moves, count_kept, sort_moves, Kept((), []).shows):
                self.check_arguments(call, *arguments)
            highest = count_kept(table, table.width - 1) - 1
            self.check_arguments(nth_kept, *arguments, (highest, BadIndex, wrong_numbers(0, highest)))


if __name__ == "__main__":
    unittest.main()
