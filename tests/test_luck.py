"""[29] Luck."""

import collections
import fractions
import itertools
import unittest

from runcolumns.errors import BadCounts, BadSizes
from runcolumns.luck import chance_of_few, count_tables, spread_of_runs, tables_by_runs
from runcolumns.spreading import average_runs, count_spread
from tests.cases import Case
from tests.samples import (
    HUGE, all_counts, columns_with, how_many_columns, runs_in, wrong_counts, wrong_groups, wrong_numbers,
)

EXAMPLES = """
>>> from runcolumns.luck import chance_of_few, count_tables, spread_of_runs, tables_by_runs
>>> [spread_of_runs((2, 1)), spread_of_runs((2, 2)), spread_of_runs([1, 1, 1]), chance_of_few((2, 2), 2), chance_of_few((1, 1), 1), chance_of_few((3,), 1)]
[(2, 9), (2, 3), (0, 1), (1, 3), (0, 1), (1, 1)]
>>> [tables_by_runs(2, (2,)), tables_by_runs(2, (2, 3)), count_tables(3, (2, 2), 5), count_tables(3, (1,), 2)]
[{1: 2, 2: 2}, {2: 6, 3: 18, 4: 12}, 16, 0]
"""

SMALL = [counts for cells in range(1, 7) for counts in all_counts(cells)]
MIDDLE = [(2, 2, 3), (1, 5, 1), (4, 3), (1,) * 7, (7,), (3, 1, 1, 2), (4, 4)]
LARGE = [
    (12,), (1, 11), (6, 6), (7, 5), (4, 4, 4), (1, 9, 2), (3, 3, 2, 2, 1, 1), (2, 2, 2, 2, 2, 1, 1), (3, 3, 3, 3),
    (6, 1, 1, 1, 1, 1, 1), (1, 1, 1, 1, 1, 1, 6), (5, 1, 2, 4), (8, 1, 1, 1, 1),
]
SHAPES = [
    (rows, values) for rows in range(1, 5) for width in range(1, 5) for values in itertools.product((1, 2, 3), repeat=width)
    if len(list(itertools.product(*[range(many) for many in values]))) ** rows <= 1500
] + [(2, (7,)), (3, (7,)), (1, (7, 7)), (7, (2,)), (5, (4,)), (10, (2,)), (10, (1, 1, 1, 1)), (2, (5, 6)), (6, (3,))]
WIDE = [(10, (7, 7, 7, 7)), (10, (7,)), (10, (1, 7, 1, 2)), (9, (2, 3, 4, 5)), (1, (7, 7, 7, 7)), (10, (2, 2, 2, 2))]


def in_lowest_terms(part):
    return part.numerator, part.denominator


def spread_of(numbers):
    """The average square of the difference of numbers from their average."""
    average = fractions.Fraction(sum(numbers), len(numbers))
    return sum((number - average) ** 2 for number in numbers) / len(numbers)


def table_runs(rows, values):
    """The numbers of runs of all tables of a shape."""
    every = itertools.product(itertools.product(*[range(many) for many in values]), repeat=rows)
    return [sum(runs_in(column) for column in zip(*table)) for table in every]


def product(numbers):
    found = 1
    for number in numbers:
        found *= number
    return found


class ColumnsTest(Case):

    def test_examples(self):
        self.check_examples(EXAMPLES)

    def test_against_all_columns(self):
        for counts in SMALL + MIDDLE:
            numbers = [runs_in(column) for column in columns_with(counts)]
            self.assertEqual(spread_of_runs(counts), in_lowest_terms(spread_of(numbers)), counts)
            for runs in range(1, sum(counts) + 1):
                few = fractions.Fraction(len([number for number in numbers if number <= runs]), len(numbers))
                self.assertEqual(chance_of_few(counts, runs), in_lowest_terms(few), (counts, runs))

    def test_twelve_cells(self):
        for counts in LARGE:
            cells, many = sum(counts), how_many_columns(counts)
            found = {runs: count_spread(counts, runs) for runs in range(1, cells + 1)}
            self.assertEqual(sum(found.values()), many)
            average = fractions.Fraction(*average_runs(counts))
            squares = sum(number * (runs - average) ** 2 for runs, number in found.items())
            self.assertEqual(spread_of_runs(counts), in_lowest_terms(squares / many))
            for runs in range(1, cells + 1):
                few = fractions.Fraction(sum(found[fewer] for fewer in range(1, runs + 1)), many)
                self.assertEqual(chance_of_few(counts, runs), in_lowest_terms(few))
            self.assertEqual(chance_of_few(counts, cells), (1, 1))

    def test_spread_by_pairs_of_places(self):
        # Without any columns: the places between two rows are alike, and any two of them are near or apart.
        for counts in LARGE + SMALL:
            cells = sum(counts)
            if cells < 4:
                continue
            def chance(*patterns):
                """How often the first rows have values in one of these patterns."""
                return sum(product(cells_left(counts, pattern)) for pattern in patterns)
            values = range(len(counts))
            one = chance(*[(v, w) for v in values for w in values if v != w])
            near = chance(*[(v, w, x) for v in values for w in values for x in values if v != w != x])
            apart = chance(*[
                (v, w, x, y) for v in values for w in values for x in values for y in values if v != w and x != y])
            first = fractions.Fraction(one, cells * (cells - 1))
            second = fractions.Fraction(near, cells * (cells - 1) * (cells - 2))
            third = fractions.Fraction(apart, cells * (cells - 1) * (cells - 2) * (cells - 3))
            mean = (cells - 1) * first
            squares = mean + 2 * (cells - 2) * second + (cells - 2) * (cells - 3) * third
            self.assertEqual(spread_of_runs(counts), in_lowest_terms(squares - mean * mean), counts)

    def test_none_and_all(self):
        for counts in [(12,), (1,), [3], (1, 1), (1, 1, 1), (1,) * 7]:
            self.assertEqual(spread_of_runs(counts), (0, 1))
        for counts in [(12,), (1,), (5,)]:
            for runs in range(1, counts[0] + 1):
                self.assertEqual(chance_of_few(counts, runs), (1, 1))
        self.assertEqual([chance_of_few((6, 6), runs) for runs in (1, 11, 12)], [(0, 1), (461, 462), (1, 1)])
        self.assertEqual([chance_of_few((1,) * 7, runs) for runs in (1, 6, 7)], [(0, 1), (0, 1), (1, 1)])
        self.assertEqual([chance_of_few((1, 11), runs) for runs in (1, 2, 3, 4, 12)], [(0, 1), (1, 6)] + [(1, 1)] * 3)

    def test_lists_and_tuples(self):
        for counts in ((2, 1), (4, 4, 4), (1,), (12,)):
            held = list(counts)
            self.assertEqual(spread_of_runs(held), spread_of_runs(counts))
            self.assertEqual(chance_of_few(held, 1), chance_of_few(counts, 1))
            self.assertEqual(held, list(counts))


def cells_left(counts, pattern):
    """In how many ways a cell can be drawn for each value of a pattern, one after the other."""
    left, found = list(counts), []
    for value in pattern:
        found.append(left[value])
        left[value] -= 1
    return found


class TablesTest(Case):

    def test_against_all_tables(self):
        for rows, values in SHAPES:
            numbers = collections.Counter(table_runs(rows, values))
            found = tables_by_runs(rows, values)
            self.assertEqual(list(found.items()), sorted(numbers.items()), (rows, values))
            for runs in range(1, 41):
                self.assertEqual(count_tables(rows, values, runs), numbers[runs])

    def test_many_tables(self):
        for rows, values in WIDE:
            found = tables_by_runs(rows, values)
            every = product(values) ** rows
            self.assertEqual(sum(found.values()), every)
            self.assertEqual(list(found), sorted(found))
            width, changing = len(values), len([many for many in values if many > 1])
            self.assertEqual((min(found), max(found)), (width, width + changing * (rows - 1)))
            self.assertEqual(found[width], product(values))
            self.assertTrue(all(found.values()))
            self.assertEqual([count_tables(rows, values, runs) for runs in range(1, 41)],
                             [found.get(runs, 0) for runs in range(1, 41)])

    def test_row_by_row(self):
        # A row more begins a new run in any choice of the columns.
        for rows, values in WIDE + [(6, (2, 3, 1)), (10, (5, 1)), (4, (7, 2, 3))]:
            many = {len(values): product(values)}
            for _ in range(rows - 1):
                longer = collections.Counter()
                for runs, number in many.items():
                    for picked in itertools.product((0, 1), repeat=len(values)):
                        ways = product(values[c] - 1 if begins else 1 for c, begins in enumerate(picked))
                        longer[runs + sum(picked)] += number * ways
                many = longer
            self.assertEqual(tables_by_runs(rows, values), {runs: many[runs] for runs in sorted(many) if many[runs]})

    def test_no_table_has_so_many(self):
        self.assertEqual([count_tables(10, (1, 1), runs) for runs in (1, 2, 3, 40)], [0, 1, 0, 0])
        self.assertEqual([count_tables(1, (7, 7), runs) for runs in (1, 2, 3, 20)], [0, 49, 0, 0])
        self.assertEqual(count_tables(10, (2, 2, 2, 2), 40), 16)
        self.assertEqual(count_tables(10, (2, 2, 2, 1), 40), 0)
        self.assertEqual(tables_by_runs(10, (1, 1, 1)), {3: 1})
        self.assertEqual(tables_by_runs(3, (1, 2)), {2: 2, 3: 4, 4: 2})

    def test_each_dict_is_new(self):
        tables_by_runs(2, (2,)).clear()
        self.assertEqual(tables_by_runs(2, (2,)), {1: 2, 2: 2})


class LuckErrorsTest(Case):

    def test_wrong_counts(self):
        for right in ((12,), (1,) * 7, [6, 6], [1], (2, 1)):
            counts, cells = (right, BadCounts, wrong_counts()), sum(right)
            self.check_arguments(spread_of_runs, counts)
            for runs in {1, cells}:
                self.check_arguments(chance_of_few, counts, (runs, BadSizes, wrong_numbers(1, cells)))

    def test_wrong_shapes(self):
        no_values = wrong_groups(1, 7, [1, 2, 3, 4]) + [(0, 2), (2, 0), (8,), (1,) * 5, [2, 3], (), (HUGE,)]
        for rows, values in ((1, (1,)), (10, (7, 7, 7, 7)), (2, (2, 3)), (10, (1, 1, 1))):
            arguments = (rows, BadSizes, wrong_numbers(1, 10)), (values, BadSizes, no_values)
            self.check_arguments(tables_by_runs, *arguments)
            for runs in (1, 40):
                self.check_arguments(count_tables, *arguments, (runs, BadSizes, wrong_numbers(1, 40)))


if __name__ == "__main__":
    unittest.main()
