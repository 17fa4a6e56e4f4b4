"""[28] A column kept rising."""

import itertools
import unittest

from runcolumns.errors import BadColumn, BadPrices, BadTable, TooLarge
from runcolumns.keepsorted import Within, best_within, cheapest_column, least_within
from runcolumns.ordering import least_changes
from runcolumns.tables import Table
from tests.cases import Case
from tests.samples import (
    CORNERS, EIGHT, HUGE, NO_TABLES, SEVEN, different, few_different, some_prices, walked, ways_left, wrong_numbers,
    wrong_prices,
)

EXAMPLES = """
>>> from runcolumns.keepsorted import Within, best_within, cheapest_column, least_within
>>> from runcolumns.tables import Table
>>> table = Table([(0, 2), (1, 1), (0, 1), (1, 2)])
>>> [least_within(table, (1, 1), 0), sorted(best_within(table, (1, 1), 0).order[:2]), cheapest_column(table, (1, 5)), best_within(table, (1, 1), 1).shows(table, (1, 1), 1)]
[3, [(0, 1), (0, 2)], (1,), True]
>>> [best_within(table, (1, 1), 0).rest[(((1, 1), (1, 2)), (0, 1))], len(best_within(table, (1, 1), 0).rest), Within(((0, 1), (1, 1), (0, 2), (1, 2)), {}).shows(table, (1, 1), 0)]
[2, 8, False]
"""

FOUR = Table([(0, 2), (1, 1), (0, 1), (1, 2)])
TABLES = few_different(5, many=40) + few_different(5, many=30, seed=4, width=3, top=2)


def rises(rows, place):
    return all(one[place] <= other[place] for one, other in zip(rows, rows[1:]))


def all_rising(table, place):
    """All orders of the different rows in which the column never decreases."""
    return [order for order in itertools.permutations(different(table)) if rises(order, place)]


def all_rest(table, prices, place):
    """The whole dict of a Within, by trying all orders and looking at what can remain behind a first part."""
    rest = {}
    for order in all_rising(table, place):
        for at, row in enumerate(order):
            pair = tuple(sorted(order[at + 1:])), row
            rest[pair] = min(rest.get(pair, HUGE), walked(order[at:], prices))
    return rest


def pairs_told(table, place):
    """All pairs of a lot that can be left after a row, and this row, told from the words of [28]."""
    return [
        (lot, row) for lot, row in ways_left(table)
        if not any(other[place] < row[place] for other in lot)
        and {other for other in different(table) if other[place] > row[place]} <= set(lot)
    ]


class KeptRisingTest(Case):

    def test_examples(self):
        self.check_examples(EXAMPLES)

    def test_against_all_orders(self):
        for table in TABLES:
            for prices in some_prices(table.width)[1:]:
                least = [min(walked(order, prices) for order in all_rising(table, c)) for c in range(table.width)]
                for place in range(table.width):
                    self.assertEqual(least_within(table, prices, place), least[place])
                    self.check_found(table, prices, place, least[place])
                cheapest = tuple(c for c in range(table.width) if least[c] == min(least))
                self.assertEqual(cheapest_column(table, prices), cheapest)

    def check_found(self, table, prices, place, least):
        found = best_within(table, prices, place)
        self.assertIn(found.order, all_rising(table, place))
        self.assertEqual(walked(found.order, prices), least)
        self.assertEqual(found.rest, all_rest(table, prices, place))
        self.assertEqual(sorted(found.rest), sorted(pairs_told(table, place)))
        self.assertTrue(found.shows(table, prices, place))

    def test_seven_rows(self):
        ladder = Table([(at, 6 - at) for at in range(7)])
        for table in (SEVEN, ladder, Table([(0, at) for at in range(7)]), Table([(at // 2, at % 2, at) for at in range(7)])):
            for prices in some_prices(table.width)[-3:]:
                for place in range(table.width):
                    orders = all_rising(table, place)
                    self.assertEqual(least_within(table, prices, place), min(walked(order, prices) for order in orders))
                    self.check_found(table, prices, place, min(walked(order, prices) for order in orders))

    def test_a_column_with_equal_values_is_no_hindrance(self):
        for table in (Table([(3, 0), (3, 1), (3, 5), (3, 1)]), Table([(3, at) for at in range(7)])):
            for prices in ((2, 5), (0, 0), (9, 0)):
                self.assertEqual(least_within(table, prices, 0), least_changes(table, prices))
                self.assertEqual(sorted(best_within(table, prices, 0).rest), sorted(ways_left(table)))

    def test_a_column_with_different_values_leaves_one_order(self):
        table = Table([(3, 0), (1, 5), (6, 0), (0, 0), (1, 5)])
        rows = ((0, 0), (1, 5), (3, 0), (6, 0))
        found = best_within(table, (2, 5), 0)
        self.assertEqual(found.order, rows)
        self.assertEqual(found.rest, {(rows[at + 1:], rows[at]): (16, 9, 2, 0)[at] for at in range(4)})
        self.assertEqual(least_within(table, (2, 5), 0), 16)

    def test_one_row(self):
        table = Table([(3, 6)] * 10)
        self.assertEqual(cheapest_column(table, (9, 9)), (0, 1))
        for place in (0, 1):
            found = best_within(table, (9, 9), place)
            self.assertEqual((found.order, found.rest), (((3, 6),), {((), (3, 6)): 0}))
            self.assertEqual(least_within(table, (9, 9), place), 0)

    def test_the_dearest_tables(self):
        table = Table([(0, 1, 2, 3), (3, 2, 1, 0), (1, 0, 3, 2), (2, 3, 0, 1), (4, 5, 6, 4), (5, 6, 4, 5), (6, 4, 5, 6)])
        prices = (9, 9, 9, 9)
        for place in range(4):
            self.assertEqual(least_within(table, prices, place), 216)
            self.check_found(table, prices, place, 216)


class WithinTest(Case):

    def test_all_orders_are_judged(self):
        for table in [table for table in TABLES if len(different(table)) <= 4]:
            for prices in some_prices(table.width)[-3:]:
                for place in range(table.width):
                    rest, least = all_rest(table, prices, place), least_within(table, prices, place)
                    for order in itertools.permutations(different(table)):
                        right = rises(order, place) and walked(order, prices) == least
                        self.assertEqual(Within(order, rest).shows(table, prices, place), right)
                        self.assertEqual(Within(list(order), rest).shows(table, prices, place), right)

    def test_the_whole_dict_is_judged(self):
        prices, order = (1, 1), best_within(FOUR, (1, 1), 0).order
        right = all_rest(FOUR, prices, 0)
        strangers = [pair for pair in ways_left(FOUR) if pair not in right]
        self.assertEqual(len(strangers), 24)
        strangers += [((), (5, 5)), (((0, 1),), (0, 1)), (((1, 2), (1, 1)), (0, 1)), ((), (0,)), (), 0, ((), None)]
        self.check_dict(lambda rest: Within(order, rest).shows(FOUR, prices, 0), right, strangers)
        order = best_within(CORNERS, (5, 2), 1).order
        self.check_dict(lambda rest: Within(order, rest).shows(CORNERS, (5, 2), 1), all_rest(CORNERS, (5, 2), 1), [])

    def test_only_right_orders(self):
        order, rest = best_within(FOUR, (1, 1), 0).order, all_rest(FOUR, (1, 1), 0)
        self.assertTrue(Within(order, rest).shows(FOUR, (1, 1), 0))
        self.assertFalse(Within(order, rest).shows(FOUR, (1, 1), 1))
        self.assertFalse(Within(order, rest).shows(FOUR, (1, 2), 0))
        wrong = [(), order[:3], order + order[:1], order[:3] + order[:1], order[:3] + ((5, 5),), order[:3] + ((0,),)]
        for rows in wrong + [order[:3] + ((HUGE, 0),), order[:3] + ((),), order[::-1]]:
            self.assertFalse(Within(rows, rest).shows(FOUR, (1, 1), 0), rows)

    def test_booleans_are_not_integers(self):
        order, rest = best_within(CORNERS, (1, 1), 0).order, all_rest(CORNERS, (1, 1), 0)
        self.assertTrue(Within(order, rest).shows(CORNERS, (1, 1), 0))
        self.assertFalse(Within([tuple(map(bool, row)) for row in order], rest).shows(CORNERS, (1, 1), 0))
        named = {((), (True, 1)) if key == ((), (1, 1)) else key: rest[key] for key in rest}
        self.assertEqual(named, rest)
        self.assertFalse(Within(order, named).shows(CORNERS, (1, 1), 0))

    def test_current_attributes_are_judged(self):
        found = best_within(FOUR, (1, 1), 0)
        found.order = [(0, 1), (0, 2), (1, 2), (1, 1)]
        self.assertTrue(found.shows(FOUR, (1, 1), 0))
        found.order = ((0, 1), (1, 1), (1, 2), (0, 2))
        self.assertFalse(found.shows(FOUR, (1, 1), 0))
        found = best_within(FOUR, (1, 1), 0)
        found.rest.popitem()
        self.assertFalse(found.shows(FOUR, (1, 1), 0))

    def test_copies(self):
        order, rest = [(0, 0)], {((), (0, 0)): 0}
        found = Within(order, rest)
        order.clear()
        rest.clear()
        self.assertEqual((found.order, found.rest), (((0, 0),), {((), (0, 0)): 0}))
        best_within(FOUR, (1, 1), 0).rest.clear()
        self.assertTrue(best_within(FOUR, (1, 1), 0).shows(FOUR, (1, 1), 0))

    def test_equal(self):
        self.check_equality(
            lambda: Within([(0, 0)], {}), lambda: Within((), {}), lambda: Within(((0, 0),), {((), (0, 0)): 0}))
        self.assertEqual(best_within(FOUR, (1, 1), 0), best_within(FOUR, (1, 1), 0))


class KeepSortedErrorsTest(Case):

    def test_wrong_arguments(self):
        for table, width in ((FOUR, 2), (SEVEN, 2), (Table([(0,)]), 1), (Table([(0, 1, 2, 3)] * 10), 4)):
            arguments = ((table, BadTable, NO_TABLES), ((9,) * width, BadPrices, wrong_prices(width)))
            self.check_arguments(cheapest_column, *arguments)
            for call in (best_within, least_within, Within((), {}).shows):
                self.check_arguments(call, *arguments, (width - 1, BadColumn, wrong_numbers(0, width - 1)))

    def test_too_large(self):
        self.refused(TooLarge, cheapest_column, EIGHT, (1, 1))
        self.refused(BadPrices, cheapest_column, EIGHT, (1, 10))
        for call in (best_within, least_within, Within((), {}).shows):
            for place in (0, 2, None, -1):
                self.refused(TooLarge, call, EIGHT, (1, 1), place)
                self.refused(BadPrices, call, EIGHT, (1, 10), place)
                self.refused(BadTable, call, None, (1, 10), place)


if __name__ == "__main__":
    unittest.main()
