"""[23] Stretches."""

import itertools
import unittest

from runcolumns.allpages import all_cost, ends_of_most, page_cost, quiet, sliding
from runcolumns.errors import BadIndex, BadPrices, BadTable
from runcolumns.runs import cost
from runcolumns.tables import Table
from tests.cases import Case
from tests.samples import NO_TABLES, some_prices, some_tables, whole_cost, wrong_numbers, wrong_prices

EXAMPLES = """
>>> from runcolumns.allpages import all_cost, ends_of_most, page_cost, quiet, sliding
>>> from runcolumns.tables import Table
>>> table = Table([(1, 0), (0, 0), (0, 0), (0, 2)])
>>> [page_cost(table, 0, 2, (2, 5)), sliding(table, 2, (1, 1)), ends_of_most(table, 2, (1, 1)), all_cost(table, (1, 1)), quiet(table)]
[9, [3, 2, 3], [0, 2], 26, (2, 1)]
"""

TABLE = Table([(1, 0), (0, 0), (0, 0), (0, 2)])
TEN = Table([(at % 3, at % 4 // 2) for at in range(10)])
TABLES = some_tables(many=60) + [TEN]


class StretchesTest(Case):

    def test_examples(self):
        self.check_examples(EXAMPLES)

    def test_each_stretch_against_the_table_of_its_rows(self):
        for table in TABLES:
            for prices in some_prices(table.width):
                for first, past in itertools.combinations(range(len(table) + 1), 2):
                    found = page_cost(table, first, past, prices)
                    self.assertEqual(found, cost(Table(table.rows[first:past]), prices))
                    self.assertEqual(found, whole_cost(table.rows[first:past], prices))

    def test_every_width(self):
        for table in TABLES:
            many = len(table)
            for prices in some_prices(table.width):
                for wide in range(1, many + 1):
                    costs = [whole_cost(table.rows[at:at + wide], prices) for at in range(many - wide + 1)]
                    self.assertEqual(sliding(table, wide, prices), costs)
                    most = [at for at, worth in enumerate(costs) if worth == max(costs)]
                    self.assertEqual(ends_of_most(table, wide, prices), most)

    def test_all_stretches(self):
        for table in TABLES:
            for prices in some_prices(table.width):
                stretches = itertools.combinations(range(len(table) + 1), 2)
                total = sum(whole_cost(table.rows[first:past], prices) for first, past in stretches)
                self.assertEqual(all_cost(table, prices), total)
                # A change lies inside as many stretches as there are rows up to it, times those behind it.
                many = len(table)
                inside = sum(prices) * many * (many + 1) // 2
                for at in range(1, many):
                    inside += whole_cost(table.rows[at - 1:at + 1], prices) * at * (many - at)
                    inside -= sum(prices) * at * (many - at)
                self.assertEqual(total, inside)

    def test_prices_of_nothing(self):
        self.assertEqual(all_cost(TABLE, (0, 0)), 0)
        self.assertEqual(sliding(TABLE, 3, (0, 0)), [0, 0])
        self.assertEqual(ends_of_most(TABLE, 3, (0, 0)), [0, 1])
        self.assertEqual(page_cost(TABLE, 1, 4, (0, 9)), 18)

    def test_quiet_against_all_stretches(self):
        for table in TABLES:
            equal = [
                (past - first, -first) for first, past in itertools.combinations(range(len(table) + 1), 2)
                if len(set(table.rows[first:past])) == 1
            ]
            wide, first = max(equal)
            self.assertEqual(quiet(table), (wide, -first))

    def test_the_first_of_several(self):
        column = [0, 0, 1, 2, 2, 2, 0, 0, 0, 1]
        for past, found in zip(range(1, 11), [(1, 0)] + [(2, 0)] * 4 + [(3, 3)] * 5):
            self.assertEqual(quiet(Table([(value,) for value in column[:past]])), found)
        self.assertEqual(quiet(Table([(5, 5)] * 10)), (10, 0))
        self.assertEqual(quiet(Table([(at % 7, 0) for at in range(10)])), (1, 0))
        self.assertEqual(quiet(Table([(0, 0), (0, 1), (0, 1), (1, 1)])), (2, 1))

    def test_one_row(self):
        table = Table([(3, 4)])
        self.assertEqual(page_cost(table, 0, 1, (2, 5)), 7)
        self.assertEqual((all_cost(table, (2, 5)), sliding(table, 1, (2, 5)), quiet(table)), (7, [7], (1, 0)))
        self.assertEqual(ends_of_most(table, 1, (2, 5)), [0])

    def test_each_list_is_new(self):
        sliding(TABLE, 2, (1, 1)).clear()
        ends_of_most(TABLE, 2, (1, 1)).clear()
        self.assertEqual((sliding(TABLE, 2, (1, 1)), ends_of_most(TABLE, 2, (1, 1))), ([3, 2, 3], [0, 2]))


class AllPagesErrorsTest(Case):

    def test_wrong_arguments(self):
        for table in (TABLE, TEN, Table([(0,)]), Table([(0, 1, 2, 3)] * 3)):
            tables, many = (table, BadTable, NO_TABLES), len(table)
            prices = ((9,) * table.width, BadPrices, wrong_prices(table.width))
            self.check_arguments(all_cost, tables, prices)
            self.check_arguments(quiet, tables)
            for first in {0, many - 1}:
                self.check_arguments(
                    page_cost, tables, (first, BadIndex, wrong_numbers(0, many - 1)),
                    (many, BadIndex, wrong_numbers(first + 1, many)), prices)
            for wide in {1, many}:
                for call in (sliding, ends_of_most):
                    self.check_arguments(call, tables, (wide, BadIndex, wrong_numbers(1, many)), prices)


if __name__ == "__main__":
    unittest.main()
