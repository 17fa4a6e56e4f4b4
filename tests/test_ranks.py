"""[32] Ranks."""

import collections
import itertools
import unittest

from runcolumns.errors import BadColumn, BadIndex, BadRow, BadTable
from runcolumns.ranks import count_of, far_from, frequent, majority, middles, nth_value, rank_at, row_with
from runcolumns.tables import Table
from tests.cases import Case
from tests.samples import NO_TABLES, some_tables, wrong_numbers

EXAMPLES = """
>>> from runcolumns.ranks import count_of, far_from, frequent, majority, middles, nth_value, rank_at, row_with
>>> from runcolumns.tables import Table
>>> table = Table([(4,), (1,), (1,), (4,), (2,)])
>>> [count_of(table, 0, 4), rank_at(table, 0, 4, 3), row_with(table, 0, 4, 1), [nth_value(table, 0, number) for number in range(5)], middles(table, 0)]
[2, 1, 3, [1, 1, 2, 4, 4], (2, 2)]
>>> [far_from(table, 0, 2), frequent(table, 0), majority(table, 0), middles(Table([(3,), (0,)]), 0), majority(Table([(3,), (0,), (3,)]), 0)]
[6, [1, 4], None, (0, 3), 3]
"""


def column(*values):
    return Table([(value,) for value in values])


TABLES = some_tables(many=50) + [
    column(*values) for many in range(1, 5) for values in itertools.product((0, 1, 6), repeat=many)
] + [column(0, 1, 2, 3, 4, 5, 6, 0, 1, 2), column(*[4] * 10), column(6, 0, 6, 5, 5, 6, 0, 0, 6, 5)]


class RanksTest(Case):

    def test_examples(self):
        self.check_examples(EXAMPLES)

    def test_values_against_single_rows(self):
        for table in TABLES:
            for c in range(table.width):
                values = [row[c] for row in table.rows]
                for value in range(7):
                    rows = [index for index, held in enumerate(values) if held == value]
                    self.assertEqual(count_of(table, c, value), len(rows))
                    self.assertEqual(far_from(table, c, value), sum(abs(held - value) for held in values))
                    ranks = [len([row for row in rows if row < index]) for index in range(len(values) + 1)]
                    self.assertEqual([rank_at(table, c, value, index) for index in range(len(values) + 1)], ranks)
                    self.assertEqual([row_with(table, c, value, number) for number in range(len(rows))], rows)
                    self.refused(BadIndex, row_with, table, c, value, len(rows))

    def test_columns_against_single_rows(self):
        for table in TABLES:
            for c in range(table.width):
                values = sorted(row[c] for row in table.rows)
                many = len(values)
                self.assertEqual([nth_value(table, c, number) for number in range(many)], values)
                halves = (many // 2 - 1, many // 2) if many % 2 == 0 else ((many - 1) // 2, (many - 1) // 2)
                self.assertEqual(middles(table, c), (values[halves[0]], values[halves[1]]))
                counts = collections.Counter(values)
                most = max(counts.values())
                self.assertEqual(frequent(table, c), sorted(value for value in counts if counts[value] == most))
                over = [value for value in counts if counts[value] * 2 > many]
                self.assertEqual(majority(table, c), over[0] if over else None)

    def test_middles_are_nearest(self):
        for table in TABLES:
            for c in range(table.width):
                sums = [far_from(table, c, value) for value in range(7)]
                low, high = middles(table, c)
                self.assertEqual([value for value in range(7) if sums[value] == min(sums)], list(range(low, high + 1)))

    def test_majority_is_more_than_half(self):
        self.assertEqual([majority(column(*values), 0) for values in [
            (5,), (5, 5), (5, 0), (5, 0, 5), (5, 0, 5, 0), (0, 5, 5, 5), (0, 0, 5, 5, 1), (6, 6, 6, 0, 0, 0), (0, 0, 0),
        ]], [5, 5, None, 5, None, 5, None, None, 0])

    def test_a_value_that_no_row_has(self):
        table = column(4, 1, 1)
        self.assertEqual((count_of(table, 0, 6), rank_at(table, 0, 6, 3), far_from(table, 0, 6)), (0, 0, 12))
        for number in wrong_numbers(0, -1):
            self.refused(BadIndex, row_with, table, 0, 6, number)

    def test_each_list_is_new(self):
        frequent(column(1, 2), 0).clear()
        self.assertEqual(frequent(column(1, 2), 0), [1, 2])


class RanksErrorsTest(Case):

    def test_wrong_arguments(self):
        for table, value in ((column(4, 1, 1, 4, 2), 4), (Table([(0, 1, 2, 6)] * 10), 6), (column(0), 0)):
            c, many = table.width - 1, len(table)
            arguments = (table, BadTable, NO_TABLES), (c, BadColumn, wrong_numbers(0, c))
            for call in (middles, frequent, majority):
                self.check_arguments(call, *arguments)
            self.check_arguments(nth_value, *arguments, (many - 1, BadIndex, wrong_numbers(0, many - 1)))
            values = (value, BadRow, wrong_numbers(0, 6))
            self.check_arguments(count_of, *arguments, values)
            self.check_arguments(far_from, *arguments, values)
            self.check_arguments(rank_at, *arguments, values, (many, BadIndex, wrong_numbers(0, many)))
            highest = table.column(c).count(value) - 1
            self.check_arguments(row_with, *arguments, values, (highest, BadIndex, wrong_numbers(0, highest)))


if __name__ == "__main__":
    unittest.main()
