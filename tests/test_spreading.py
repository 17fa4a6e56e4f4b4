"""[14] Counts."""

import fractions
import itertools
import unittest

from runcolumns.errors import BadCounts, BadIndex, BadSizes
from runcolumns.spreading import (
    Spread, average_runs, count_columns, count_spread, most_runs, nth_spread, spread, spread_index,
)
from tests.cases import Case
from tests.samples import (
    HUGE, NO_TUPLES, ODD_ITEMS, all_counts, columns_with, how_many_columns, runs_in, wrong_counts, wrong_numbers,
)

EXAMPLES = """
>>> from runcolumns.spreading import Spread, average_runs, count_columns, count_spread, most_runs, nth_spread, spread_index
>>> [average_runs((2, 1)), most_runs((4, 1)), [count_spread((2, 2), runs) for runs in (1, 2, 3, 4)], nth_spread((2, 2), 3, 1), spread_index((1, 0, 0, 1)), count_columns(3, 2, 2)]
[(7, 3), 3, [0, 2, 2, 2], (1, 0, 0, 1), 1, 4]
>>> [Spread((0, 1, 0, 0)).shows((3, 1)), Spread((1, 0, 0, 0)).shows((3, 1)), average_runs((5,)), most_runs([2, 2, 2])]
[True, False, (1, 1), 6]
"""

LARGE = [
    (12,), (1, 11), (6, 6), (7, 5), (4, 4, 4), (1, 9, 2), (3, 3, 2, 2, 1, 1), (2, 2, 2, 2, 2, 1, 1), (1,) * 7,
    (6, 1, 1, 1, 1, 1, 1), (1, 1, 1, 1, 1, 1, 6), (5, 1, 2, 4), (8, 1, 1, 1, 1),
]


SMALL = [counts for cells in range(1, 7) for counts in all_counts(cells)]


class CountsTest(Case):

    def test_examples(self):
        self.check_examples(EXAMPLES)

    def test_against_columns_with(self):
        for counts in SMALL + [(2, 2, 3), (1, 5, 1), (4, 3), (1,) * 7, (7,), (3, 1, 1, 2)]:
            columns = columns_with(counts)
            numbers = [runs_in(column) for column in columns]
            average = fractions.Fraction(sum(numbers), len(numbers))
            self.assertEqual(average_runs(counts), (average.numerator, average.denominator))
            self.assertEqual(most_runs(counts), max(numbers))
            self.assertEqual(runs_in(spread(counts).cells), max(numbers))
            self.assertIn(spread(counts).cells, columns)
            for runs in range(1, sum(counts) + 1):
                self.check_columns(counts, runs, [column for column in columns if runs_in(column) == runs])

    def check_columns(self, counts, runs, columns):
        self.assertEqual(count_spread(counts, runs), len(columns), (counts, runs))
        for index in range(0, len(columns), 1 + len(columns) // 50):
            self.assertEqual(nth_spread(counts, runs, index), columns[index])
            self.assertEqual(spread_index(columns[index]), index)
        for index in (len(columns), -1, -len(columns), HUGE):
            self.refused(BadIndex, nth_spread, counts, runs, index)

    def test_every_index(self):
        for counts in [(1,), (3,), (2, 2), (1, 2, 1), (1, 1, 1, 1), (3, 2), (2, 1, 2)]:
            for runs in range(1, sum(counts) + 1):
                columns = [column for column in columns_with(counts) if runs_in(column) == runs]
                found = [nth_spread(counts, runs, index) for index in range(count_spread(counts, runs))]
                self.assertEqual(found, columns)
                self.assertEqual([spread_index(column) for column in columns], list(range(len(columns))))

    def test_large_counts(self):
        for counts in LARGE:
            cells = sum(counts)
            many = [count_spread(counts, runs) for runs in range(1, cells + 1)]
            self.assertEqual(sum(many), how_many_columns(counts))
            total = sum(runs * number for runs, number in enumerate(many, 1))
            average = fractions.Fraction(total, how_many_columns(counts))
            self.assertEqual(average_runs(counts), (average.numerator, average.denominator))
            self.assertEqual(most_runs(counts), max(runs for runs, number in enumerate(many, 1) if number))
            self.assertTrue(spread(counts).shows(counts))
            for runs, number in enumerate(many, 1):
                self.check_indices(counts, runs, number)

    def check_indices(self, counts, runs, number):
        """Check some columns and their indices, where all columns would be too many."""
        self.refused(BadIndex, nth_spread, counts, runs, number)
        picked = sorted({0, 1, 2, number // 3, number // 2, number // 2 + 1, number - 2, number - 1} & set(range(number)))
        columns = [nth_spread(counts, runs, index) for index in picked]
        self.assertEqual(columns, sorted(columns))
        self.assertEqual([spread_index(column) for column in columns], picked)
        for column in columns:
            self.assertEqual(tuple(column.count(value) for value in range(len(counts))), counts)
            self.assertEqual((len(column), runs_in(column)), (sum(counts), runs))

    def test_first_and_last(self):
        self.assertEqual(nth_spread((6, 6), 12, 0), (0, 1) * 6)
        self.assertEqual(nth_spread((6, 6), 12, 1), (1, 0) * 6)
        self.assertEqual(nth_spread((6, 6), 2, 1), (1,) * 6 + (0,) * 6)
        self.assertEqual((count_spread((1,) * 7, 7), nth_spread((1,) * 7, 7, 5039)), (5040, (6, 5, 4, 3, 2, 1, 0)))
        self.assertEqual((average_runs((12,)), average_runs((6, 6)), average_runs([1])), ((1, 1), (7, 1), (1, 1)))
        self.assertEqual((most_runs((12,)), most_runs((1, 11)), most_runs((5, 6)), most_runs([5, 7])), (1, 3, 11, 11))

    def test_lists_and_tuples(self):
        for counts in ((2, 1), (4, 4, 4), (1,)):
            held = list(counts)
            self.assertEqual(average_runs(held), average_runs(counts))
            self.assertEqual(spread(held), spread(counts))
            self.assertEqual(count_spread(held, 1), count_spread(counts, 1))
            self.assertEqual(nth_spread(held, most_runs(held), 0), nth_spread(counts, most_runs(counts), 0))
            self.assertEqual(held, list(counts))

    def test_columns_whatever_their_counts(self):
        for rows, values in itertools.product(range(1, 6), range(1, 5)):
            numbers = [runs_in(column) for column in itertools.product(range(values), repeat=rows)]
            for runs in range(1, rows + 1):
                self.assertEqual(count_columns(rows, values, runs), numbers.count(runs))

    def test_many_columns(self):
        for values in range(1, 8):
            many = {1: values}
            for rows in range(1, 41):
                found = {runs: count_columns(rows, values, runs) for runs in range(1, rows + 1)}
                self.assertEqual(found, {runs: many.get(runs, 0) for runs in range(1, rows + 1)})
                self.assertEqual(sum(found.values()), values ** rows)
                # One row more goes on with the last value, or begins a run with another one.
                many = {runs: many.get(runs, 0) + (values - 1) * many.get(runs - 1, 0) for runs in range(1, rows + 2)}


class SpreadTest(Case):

    def test_all_columns_are_judged(self):
        for counts in SMALL:
            columns = columns_with(counts)
            most = max(runs_in(column) for column in columns)
            for column in columns[:200]:
                self.assertEqual(Spread(column).shows(counts), runs_in(column) == most)
                self.assertEqual(Spread(list(column)).shows(list(counts)), runs_in(column) == most)

    def test_only_the_right_cells(self):
        self.assertTrue(Spread((0, 1, 0)).shows((2, 1)))
        wrong = [(), (0,), (0, 1), (1, 0, 1), (0, 1, 0, 1), (0, 2, 0), (1, 2, 1), (0, -1, 0), (HUGE, 0, 0), (0, 1, 1)]
        for cells in wrong + [(0, 1, 0, 0), (False, True, False), (0, True, 0), (0, 0, 1), (1, 0, 0)]:
            self.assertFalse(Spread(cells).shows((2, 1)), cells)
        self.assertFalse(Spread((0, 1, 0)).shows((1, 2)))
        self.assertFalse(Spread((0, 1, 0)).shows((2, 1, 1)))
        self.assertFalse(Spread((0, 1, 0)).shows((3,)))

    def test_current_cells_are_judged(self):
        found = spread((2, 1))
        found.cells = [0, 1, 0]
        self.assertTrue(found.shows((2, 1)))
        found.cells = [0, 0, 1]
        self.assertFalse(found.shows((2, 1)))

    def test_copies(self):
        cells = [0, 1]
        found = Spread(cells)
        cells.clear()
        self.assertEqual(found.cells, (0, 1))
        self.assertIsInstance(spread([2, 1]).cells, tuple)

    def test_equal(self):
        self.check_equality(lambda: Spread((0, 1)), lambda: Spread([1, 0]), lambda: Spread(()))
        self.assertEqual(Spread([0, 1]), Spread((0, 1)))


class SpreadingErrorsTest(Case):

    def test_wrong_counts(self):
        for call in (average_runs, most_runs, spread, Spread((0,)).shows):
            for right in ((12,), (1,) * 7, [6, 6], [1]):
                self.check_arguments(call, (right, BadCounts, wrong_counts()))

    def test_wrong_runs_and_indices(self):
        for right in ((2, 2), [2, 2], (1, 3)):
            counts, runs = (right, BadCounts, wrong_counts()), (3, BadSizes, wrong_numbers(1, 4))
            self.check_arguments(count_spread, counts, runs)
            highest = count_spread(right, 3) - 1
            self.check_arguments(nth_spread, counts, runs, (highest, BadIndex, wrong_numbers(0, highest)))
        for runs in (1, 12):
            self.assertEqual(count_spread((1, 11), runs), 0)
            for index in wrong_numbers(0, -1):
                self.refused(BadIndex, nth_spread, (1, 11), runs, index)

    def test_wrong_columns(self):
        wrong = NO_TUPLES + [(), (1,), (0, 2), (2, 1), (0, 1, 3), (0,) * 13, (0, 7), (7,), (-1, 0), (0, HUGE), (0, -1)]
        wrong += [[0, 1], (0, 0, 2, 2), (0, 1, 2, 3, 4, 5, 7), (0, 1, 2, 3, 4, 5, 6, 7)]
        wrong += [(6,) * 12, (False,), (0, True), ((0,), 1), (0,) * 100000]
        wrong += [(0, item) for item in ODD_ITEMS] + [(item,) for item in ODD_ITEMS]
        for right in ((0,), (0,) * 12, (6, 5, 4, 3, 2, 1, 0), (1, 0)):
            self.check_arguments(spread_index, (right, BadCounts, wrong))

    def test_wrong_numbers(self):
        for rows in (1, 2, 7, 40):
            for values in (1, 7):
                for runs in (1, rows):
                    self.check_arguments(
                        count_columns, (rows, BadSizes, wrong_numbers(1, 40)), (values, BadSizes, wrong_numbers(1, 7)),
                        (runs, BadSizes, wrong_numbers(1, rows)))


if __name__ == "__main__":
    unittest.main()
