"""[2] Tables."""

import collections
import itertools
import unittest

from runcolumns.errors import BadColumn, BadIndex, BadOrder, BadRows
from runcolumns.tables import Table
from tests.cases import Case
from tests.samples import HUGE, ODD_ITEMS, ODD_OBJECTS, some_tables, wrong_numbers, wrong_orders

EXAMPLES = """
>>> from runcolumns.tables import Table
>>> table = Table([(1, 0), (0, 0), (1, 0), (0, 2)])
>>> [table[1], table.width, len(table), table.column(1), table.different(), table.ordered((0, 2, 1, 3)).rows, table.turned()[0]]
[(0, 0), 2, 4, [0, 0, 0, 2], [((0, 0), 1), ((0, 2), 1), ((1, 0), 2)], ((1, 0), (1, 0), (0, 0), (0, 2)), (0, 2)]
"""


class TablesTest(Case):

    def test_examples(self):
        self.check_examples(EXAMPLES)

    def test_rows_are_kept_in_order(self):
        for table in some_tables():
            self.assertIsInstance(table.rows, tuple)
            self.assertEqual(Table(list(table.rows)).rows, table.rows)
            self.assertEqual(Table(table.rows).rows, table.rows)

    def test_sizes(self):
        for many, width in itertools.product(range(1, 11), range(1, 5)):
            table = Table([(6,) * width] * many)
            self.assertEqual((len(table), table.width), (many, width))

    def test_rows_and_columns(self):
        for table in some_tables():
            self.assertEqual([table[at] for at in range(len(table))], list(table.rows))
            for c in range(table.width):
                self.assertEqual(table.column(c), [row[c] for row in table.rows])

    def test_different(self):
        for table in some_tables():
            self.assertEqual(table.different(), sorted(collections.Counter(table.rows).items()))

    def test_orders(self):
        for table in some_tables(many=10, rows=4):
            for order in itertools.permutations(range(len(table))):
                self.assertEqual(table.ordered(order).rows, tuple(table.rows[at] for at in order))
        table = Table([(n % 7,) for n in range(10)])
        self.assertEqual(table.ordered((9, 8, 7, 6, 5, 4, 3, 2, 1, 0)), table.turned())

    def test_turned(self):
        for table in some_tables():
            self.assertEqual(table.turned().rows, tuple(reversed(table.rows)))
            self.assertEqual(table.turned().turned(), table)

    def test_wrong_rows_as_a_whole(self):
        wholes = [odd for odd in ODD_OBJECTS if not isinstance(odd, list)] + [[], (), 0, HUGE, {0: (0,)}, range(3)]
        for wrong in wholes + [[(0,)] * 11, ((0,),) * 11, [None] * 11]:
            self.assertIsNone(self.refused(BadRows, Table, wrong).index)

    def test_wrong_row(self):
        wrong = [[0, 0], (), (0,), (0, 0, 0), (0, 7), (-1, 0), (0, HUGE), "00", {0: 0, 1: 0}, 0, range(2), b"00"]
        wrong += [(item, 0) for item in ODD_ITEMS] + [(0, item) for item in ODD_ITEMS] + ODD_ITEMS
        for item in wrong:
            for at in (1, 2, 9):
                rows = [(0, 0)] * at + [item] + [None] * (9 - at)
                self.assertEqual(self.refused(BadRows, Table, rows).index, at)
                self.assertEqual(self.refused(BadRows, Table, tuple(rows)).index, at)
        for first in [(), (0,) * 5, [0], (7,), (True,), None, "0", (0, None)]:
            self.assertEqual(self.refused(BadRows, Table, [first, (0,)]).index, 0)
        self.assertEqual(self.refused(BadRows, Table, [(0,), (0, 0), (0,)]).index, 1)
        self.assertEqual(self.refused(BadRows, Table, [(0, 0), (0, 0), (0,), None]).index, 2)

    def test_wrong_index(self):
        for table in (Table([(0,)]), Table([(0, 1)] * 3), Table([(0,)] * 10)):
            for wrong in wrong_numbers(0, len(table) - 1) + [slice(None), slice(0, 1), -len(table)]:
                self.refused(BadIndex, table.__getitem__, wrong)

    def test_wrong_column(self):
        for table in (Table([(0,)]), Table([(0, 1)] * 3), Table([(0,) * 4])):
            self.check_arguments(table.column, (0, BadColumn, wrong_numbers(0, table.width - 1)))

    def test_wrong_order(self):
        for many in (1, 2, 3, 10):
            table = Table([(at % 7,) for at in range(many)])
            self.check_arguments(table.ordered, (tuple(range(many)), BadOrder, wrong_orders(many)))

    def test_not_iterated_over(self):
        table = Table([(0, 0), (1, 1)])
        for use in (iter, list, tuple, sorted, set, lambda held: [*held], lambda held: (0, 0) in held):
            self.refused(TypeError, use, table)

    def test_equal(self):
        self.check_equality(
            lambda: Table([(0, 1), (1, 0)]), lambda: Table([(1, 0), (0, 1)]), lambda: Table([(0, 1)]),
            lambda: Table([(0,), (1,)]), lambda: Table([(0, 1), (1, 0), (1, 0)]),
        )
        self.assertEqual(Table([(0, 1)]), Table(((0, 1),)))
        self.assertFalse(Table([(0, 1)]) == ((0, 1),))

    def test_arguments_are_not_kept(self):
        rows = [(0, 1), (1, 0)]
        table = Table(rows)
        rows.append((1, 1))
        rows[0] = (5, 5)
        self.assertEqual(table.rows, ((0, 1), (1, 0)))

    def test_returned_lists_are_new(self):
        table = Table([(0, 1), (1, 0)])
        table.column(0).append(5)
        table.different().clear()
        self.assertEqual(table.column(0), [0, 1])
        self.assertEqual(table.different(), [((0, 1), 1), ((1, 0), 1)])


if __name__ == "__main__":
    unittest.main()
