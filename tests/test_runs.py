"""[3] Runs and [4] Prices."""

import itertools
import unittest

from runcolumns.errors import BadColumn, BadIndex, BadPrices, BadRuns, BadTable
from runcolumns.runs import all_runs, changes, cost, count_runs, runs_of, starts, table_of, value_at, values_of
from runcolumns.tables import Table
from tests.cases import Case
from tests.samples import (
    HUGE, NO_TABLES, ODD_ITEMS, ODD_OBJECTS, grouped_runs, some_prices, some_tables, whole_cost, wrong_numbers,
    wrong_prices,
)

EXAMPLES = """
>>> from runcolumns.runs import all_runs, changes, cost, count_runs, runs_of, starts, table_of, value_at, values_of
>>> from runcolumns.tables import Table
>>> table = Table([(1, 0), (0, 0), (1, 0), (0, 2)])
>>> [runs_of(table, 1), count_runs(table), changes(table), cost(table, (2, 5)), count_runs(table.ordered((0, 2, 1, 3)))]
[[(0, 3), (2, 1)], 6, [1, 1, 2], 18, 4]
>>> [starts([(0, 3), (2, 1)]), value_at([(0, 3), (2, 1)], 3), values_of([(5, 2)]), table_of(all_runs(table)) == table]
[[0, 3], 2, [5, 5], True]
"""

# Neither of these is runs of a column.
NO_RUNS = ODD_OBJECTS + [0, HUGE, (), [(0, 1), (0, 1)], [(0, 2), (1, 3), (1, 1)], [(0, 11)], [(0, 6), (1, 5)]]
NO_RUNS += [[(at % 2, 1) for at in range(11)], [(0, 10), (1, 1)], [[0, 1]], [(0,)], [(0, 1, 1)], [()], [(7, 1)]]
NO_RUNS += [[(0, 0)], [(0, 1), (1, 0)], [(0, -1)], [(0, HUGE)], [(HUGE, 1)], (0, 1), ((0, 1), 1), {(0, 1): 1}, "01"]
NO_RUNS += [[(1, 2), item] for item in ODD_ITEMS + [0]] + [[(item, 1)] for item in ODD_ITEMS]
NO_RUNS += [[(0, item)] for item in ODD_ITEMS] + [[(0, 1), (True, 1)], [(2, True)], iter([(0, 1)])]
RIGHT_RUNS = [[(0, 1)], ((6, 10),), [(0, 3), (2, 1)], tuple((at % 2, 1) for at in range(10)), [(0, 5), (6, 4), (0, 1)]]


class RunsTest(Case):

    def test_examples(self):
        self.check_examples(EXAMPLES)

    def test_runs_against_rows(self):
        for table in some_tables():
            expected = [grouped_runs([row[c] for row in table.rows]) for c in range(table.width)]
            self.assertEqual(all_runs(table), expected)
            self.assertEqual([runs_of(table, c) for c in range(table.width)], expected)
            self.assertEqual(count_runs(table), sum(len(runs) for runs in expected))
            self.assertEqual(count_runs(table), table.width + sum(changes(table)))

    def test_changes_against_rows(self):
        for table in some_tables():
            expected = [
                sum(left != right for left, right in zip(table[at], table[at + 1])) for at in range(len(table) - 1)
            ]
            self.assertEqual(changes(table), expected)
        self.assertEqual(changes(Table([(0, 6)])), [])

    def test_cost_against_rows(self):
        for table in some_tables():
            for prices in some_prices(table.width):
                self.assertEqual(cost(table, prices), whole_cost(table.rows, prices))
        self.assertEqual(cost(Table([(0, 0), (0, 1)]), (0, 9)), 18)

    def test_starts_and_values(self):
        for runs in RIGHT_RUNS:
            values = [value for value, many in runs for _ in range(many)]
            self.assertEqual(values_of(runs), values)
            begins = [at for at in range(len(values)) if at == 0 or values[at - 1] != values[at]]
            self.assertEqual(starts(runs), begins)
            self.assertEqual([value_at(runs, at) for at in range(len(values))], values)

    def test_there_and_back(self):
        for table in some_tables():
            runs = all_runs(table)
            self.assertEqual(table_of(runs), table)
            self.assertEqual(table_of(tuple(tuple(column) for column in runs)), table)
            for c in range(table.width):
                self.assertEqual(values_of(runs[c]), table.column(c))
                self.assertEqual(values_of(tuple(runs[c])), table.column(c))

    def test_wrong_arguments(self):
        for table in (Table([(0, 1)]), Table([(at % 3, at % 2) for at in range(10)])):
            self.check_arguments(runs_of, (table, BadTable, NO_TABLES), (1, BadColumn, wrong_numbers(0, 1)))
            self.check_arguments(cost, (table, BadTable, NO_TABLES), ((0, 9), BadPrices, wrong_prices(2)))
            for call in (all_runs, count_runs, changes):
                self.check_arguments(call, (table, BadTable, NO_TABLES))
        for width in (1, 4):
            prices = (9,) * width
            self.check_arguments(
                cost, (Table([(0,) * width]), BadTable, NO_TABLES), (prices, BadPrices, wrong_prices(width)))

    def test_wrong_runs(self):
        for wrong in NO_RUNS:
            for call, more in ((starts, ()), (values_of, ()), (value_at, (0,)), (value_at, (None,)), (value_at, (99,))):
                self.assertIsNone(self.refused(BadRuns, call, wrong, *more).index)

    def test_wrong_index_in_runs(self):
        for runs in RIGHT_RUNS:
            many = sum(count for _, count in runs)
            self.check_arguments(value_at, (runs, BadRuns, NO_RUNS), (many - 1, BadIndex, wrong_numbers(0, many - 1)))

    def test_wrong_columns_as_a_whole(self):
        right = [(0, 2)]
        for wrong in [None, True, 0, HUGE, "", "01", [], (), {}, {0: right}, set(), object(), [right] * 5, [None] * 5]:
            self.assertIsNone(self.refused(BadRuns, table_of, wrong).index)

    def test_wrong_column(self):
        right = [(0, 1), (1, 1)]
        for wrong in NO_RUNS + [[(0, 1)], [(0, 3)], [(0, 1), (1, 2)]]:
            for at in (1, 2, 3):
                columns = [right] * at + [wrong] + [None] * (3 - at)
                self.assertEqual(self.refused(BadRuns, table_of, columns).index, at)
                self.assertEqual(self.refused(BadRuns, table_of, tuple(columns)).index, at)
        for wrong in NO_RUNS:
            self.assertEqual(self.refused(BadRuns, table_of, [wrong, right]).index, 0)

    def test_all_small_columns(self):
        for many in range(1, 5):
            for values in itertools.product(range(3), repeat=many):
                table = Table([(value,) for value in values])
                self.assertEqual(runs_of(table, 0), grouped_runs(values))

    def test_returned_lists_are_new(self):
        table = Table([(0, 1), (1, 1)])
        for call in (all_runs, changes, lambda held: runs_of(held, 0)):
            first = call(table)
            expected = list(first)
            first.append(None)
            self.assertEqual(call(table), expected)
        all_runs(table)[1].clear()
        self.assertEqual(all_runs(table), [[(0, 1), (1, 1)], [(1, 2)]])
        runs = [(0, 2), (1, 1)]
        starts(runs).clear()
        values_of(runs).clear()
        table_of([runs])
        self.assertEqual((runs, starts(runs), values_of(runs)), ([(0, 2), (1, 1)], [0, 2], [0, 0, 1]))


if __name__ == "__main__":
    unittest.main()
