"""[13] Sorted rows."""

import itertools
import math
import unittest

from runcolumns.errors import BadOrder, BadPrices, BadSizes, BadTable
from runcolumns.sorting import Sorts, beginnings, best_sort, full_best, full_runs, sort_rows, sorted_runs
from runcolumns.tables import Table
from tests.cases import Case
from tests.samples import (
    HUGE, NO_TABLES, grouped_runs, some_prices, some_tables, whole_cost, wrong_groups, wrong_orders, wrong_prices,
)

EXAMPLES = """
>>> from runcolumns.sorting import Sorts, beginnings, best_sort, full_best, full_runs, sort_rows, sorted_runs
>>> from runcolumns.tables import Table
>>> table = Table([(1, 0), (0, 1), (1, 1), (0, 0)])
>>> [sort_rows(table, (1, 0)), sorted_runs(table, (1, 0)), beginnings(table, (1, 0)), best_sort(table, (1, 2)).places]
[[(0, 0), (1, 0), (0, 1), (1, 1)], (4, 2), (2, 4), (1, 0)]
>>> [best_sort(table, (1, 1)).sums, full_runs((3, 2), (0, 1)), full_runs((2, 1, 3), (0, 1, 2)), full_best((3, 2)), Sorts((0, 1), {(0, 1): 6, (1, 0): 6}).shows(table, (1, 1))]
[{(0, 1): 6, (1, 0): 6}, (3, 6), (2, 1, 6), 8, True]
"""

TABLE = Table([(1, 0), (0, 1), (1, 1), (0, 0)])
WIDE = Table([(2, 0, 1, 1), (0, 0, 1, 2), (2, 0, 1, 1), (0, 6, 1, 2), (2, 0, 0, 1)])
TABLES = some_tables(many=60) + [WIDE]


def places_of(width):
    return list(itertools.permutations(range(width)))


def runs_in_columns(rows):
    return tuple(len(grouped_runs([row[c] for row in rows])) for c in range(len(rows[0])))


def sort_slowly(table, places):
    """The sorted rows, by putting in one row after the other."""
    rows = []
    for row in table.rows:
        at = 0
        while at < len(rows) and [rows[at][c] for c in places] <= [row[c] for c in places]:
            at += 1
        rows.insert(at, row)
    return rows


def full_rows(sizes, places):
    """The rows of a full table, sorted by an order of its columns."""
    rows = itertools.product(*[range(size) for size in sizes])
    return sorted(rows, key=lambda row: [row[c] for c in places])


class SortedRowsTest(Case):

    def test_examples(self):
        self.check_examples(EXAMPLES)

    def test_all_orders_of_columns(self):
        for table in TABLES:
            for places in places_of(table.width):
                rows = sort_slowly(table, places)
                self.assertEqual(sort_rows(table, places), rows)
                self.assertEqual(sorted_runs(table, places), runs_in_columns(rows))
                different = [{tuple(row[c] for c in places[:many + 1]) for row in rows} for many in range(table.width)]
                self.assertEqual(beginnings(table, places), tuple(len(some) for some in different))
                for at, c in enumerate(places):
                    self.assertLessEqual(sorted_runs(table, places)[c], beginnings(table, places)[at])

    def test_equal_rows_stay(self):
        self.assertEqual(sort_rows(WIDE, (1, 0, 3, 2))[:4], [(0, 0, 1, 2), (2, 0, 0, 1), (2, 0, 1, 1), (2, 0, 1, 1)])
        self.assertEqual(sort_rows(Table([(3, 3)] * 10), (1, 0)), [(3, 3)] * 10)
        self.assertEqual(sorted_runs(WIDE, (0, 1, 2, 3)), (2, 3, 3, 2))
        self.assertEqual(beginnings(WIDE, (1, 2, 0, 3)), (2, 3, 4, 4))
        self.assertEqual((sort_rows(Table([(6,)]), (0,)), sorted_runs(Table([(6,)]), (0,))), ([(6,)], (1,)))

    def test_sums_of_all_orders(self):
        for table in TABLES:
            for prices in some_prices(table.width):
                costs = [whole_cost(sort_slowly(table, places), prices) for places in places_of(table.width)]
                found = best_sort(table, prices)
                self.assertEqual(list(found.sums.items()), list(zip(places_of(table.width), costs)))
                self.assertIsInstance(found.places, tuple)
                self.assertEqual(found.sums[found.places], min(costs))
                self.assertTrue(found.shows(table, prices))

    def test_full_tables(self):
        for width in range(1, 5):
            for sizes in itertools.product((1, 2, 3), repeat=width):
                self.check_full(sizes)
        for sizes in [(7,), (7, 1), (1, 7), (7, 6), (5, 7, 2), (7, 1, 7), (2, 7, 1, 3), (6, 2, 2, 5), (1, 1, 1, 1)]:
            self.check_full(sizes)

    def check_full(self, sizes):
        found = []
        for places in places_of(len(sizes)):
            runs = full_runs(sizes, places)
            self.assertEqual(runs, runs_in_columns(full_rows(sizes, places)), (sizes, places))
            found.append(sum(runs))
        self.assertEqual(full_best(sizes), min(found))

    def test_large_full_tables(self):
        self.assertEqual(full_runs((7, 7, 7, 7), (0, 1, 2, 3)), (7, 49, 343, 2401))
        self.assertEqual(full_runs((7, 7, 7, 7), (2, 0, 3, 1)), (49, 2401, 7, 343))
        self.assertEqual(full_runs((7, 1, 7, 6), (1, 3, 0, 2)), (42, 1, 294, 6))
        self.assertEqual(full_best((7, 7, 7, 7)), 7 + 49 + 343 + 2401)
        self.assertEqual(full_best((7, 5, 6, 3)), 3 + 15 + 90 + 630)
        for sizes in [(7, 7, 7, 6), (7, 2, 7, 7), (6, 7, 5, 7)]:
            ascending = sorted(sizes)
            self.assertEqual(full_best(sizes), sum(math.prod(ascending[:many + 1]) for many in range(4)))


class SortsTest(Case):

    def test_all_orders_are_judged(self):
        for table in [table for table in TABLES if table.width < 4][:40] + [WIDE]:
            for prices in some_prices(table.width)[-3:]:
                sums = best_sort(table, prices).sums
                for places in places_of(table.width):
                    right = sums[places] == min(sums.values())
                    self.assertEqual(Sorts(places, sums).shows(table, prices), right)
                    self.assertEqual(Sorts(list(places), dict(reversed(sums.items()))).shows(table, prices), right)

    def test_the_whole_dict_is_judged(self):
        for table, prices in ((TABLE, (1, 2)), (WIDE, (1, 5, 0, 2)), (Table([(0,)]), (0,)), (Table([(0, 0)]), (0, 1))):
            found = best_sort(table, prices)
            strangers = [(), (0,) * (table.width + 1), (table.width,), (HUGE,) * table.width, (-1,)]
            self.check_dict(lambda sums: Sorts(found.places, sums).shows(table, prices), found.sums, strangers)

    def test_wrong_places(self):
        sums = best_sort(TABLE, (1, 2)).sums
        self.assertTrue(Sorts((1, 0), sums).shows(TABLE, (1, 2)))
        self.assertFalse(Sorts((1, 0), sums).shows(TABLE, (2, 1)))
        for places in [(), (1,), (0,), (1, 1), (0, 0), (1, 0, 0), (1, 0, 2), (1, 2), (HUGE, 0), (1, -1), (True, False)]:
            self.assertFalse(Sorts(places, sums).shows(TABLE, (1, 2)), places)
            self.assertFalse(Sorts(list(places), sums).shows(TABLE, (1, 2)), places)
        self.assertFalse(Sorts((0, 1), {}).shows(TABLE, (1, 1)))

    def test_booleans_are_not_integers(self):
        flagged = {tuple(bool(c) for c in places): 0 for places in places_of(2)}
        self.assertTrue(Sorts((0, 1), {(0, 1): 0, (1, 0): 0}).shows(TABLE, (0, 0)))
        self.assertFalse(Sorts((0, 1), flagged).shows(TABLE, (0, 0)))
        self.assertFalse(Sorts((0, 1), {(0, 1): 0, (1, 0): False}).shows(TABLE, (0, 0)))
        self.assertFalse(Sorts((0, True), {(0, 1): 0, (1, 0): 0}).shows(TABLE, (0, 0)))

    def test_current_attributes_are_judged(self):
        found = best_sort(TABLE, (1, 2))
        found.places = [1, 0]
        self.assertTrue(found.shows(TABLE, (1, 2)))
        found.places = [0, 1]
        self.assertFalse(found.shows(TABLE, (1, 2)))
        found = best_sort(TABLE, (1, 2))
        found.sums[(0, 1)] += 1
        self.assertFalse(found.shows(TABLE, (1, 2)))

    def test_copies(self):
        places, sums = [1, 0], {(0, 1): 4}
        found = Sorts(places, sums)
        places.clear()
        sums.clear()
        self.assertEqual((found.places, found.sums), ((1, 0), {(0, 1): 4}))
        best_sort(TABLE, (1, 1)).sums.clear()
        sort_rows(TABLE, (0, 1)).clear()
        self.assertEqual(best_sort(TABLE, (1, 1)).sums, {(0, 1): 6, (1, 0): 6})
        self.assertEqual(len(sort_rows(TABLE, (0, 1))), 4)
        self.assertEqual(TABLE.rows, ((1, 0), (0, 1), (1, 1), (0, 0)))

    def test_equal(self):
        self.check_equality(
            lambda: Sorts([0, 1], {}), lambda: Sorts((1, 0), {}), lambda: Sorts((0, 1), {(0, 1): 4}),
            lambda: Sorts((0, 1), {(0, 1): 5}),
        )
        self.assertEqual(best_sort(TABLE, (1, 2)), best_sort(TABLE, (1, 2)))
        self.assertEqual(Sorts((0,), {(0,): 1, (1,): 2}), Sorts([0], {(1,): 2, (0,): 1}))


class SortingErrorsTest(Case):

    def test_wrong_arguments(self):
        for table in (TABLE, WIDE, Table([(0,)])):
            tables, width = (table, BadTable, NO_TABLES), table.width
            for call in (sort_rows, sorted_runs, beginnings):
                self.check_arguments(call, tables, (tuple(range(width)), BadOrder, wrong_orders(width)))
            for call in (best_sort, Sorts((), {}).shows):
                self.check_arguments(call, tables, ((9,) * width, BadPrices, wrong_prices(width)))

    def test_wrong_sizes(self):
        sizes = wrong_groups(1, 7, [1, 2, 3, 4])
        self.check_arguments(full_best, ((2, 3), BadSizes, sizes))
        for right in ((3,), (2, 3), (7, 7, 7, 7)):
            places = tuple(range(len(right)))
            self.check_arguments(full_runs, (right, BadSizes, sizes), (places, BadOrder, wrong_orders(len(right))))


if __name__ == "__main__":
    unittest.main()
