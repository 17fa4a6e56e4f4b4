"""[27] All orders."""

import collections
import fractions
import itertools
import math
import random
import unittest

from runcolumns.allorders import (
    Worst, average_changes, changes_index, most_changes, nth_with_changes, orders_by_changes, worst_order,
)
from runcolumns.errors import BadIndex, BadOrder, BadPrices, BadSizes, BadTable, TooLarge
from runcolumns.ordering import Best, count_best, least_changes, nth_best
from runcolumns.tables import Table
from tests.cases import Case
from tests.samples import (
    CORNERS, EIGHT, HUGE, NO_NUMBERS, NO_TABLES, SEVEN, different, few_different, some_prices, walked, ways_left,
    wrong_numbers, wrong_prices, wrong_row_orders,
)

EXAMPLES = """
>>> from runcolumns.allorders import Worst, average_changes, changes_index, most_changes, nth_with_changes, orders_by_changes, worst_order
>>> from runcolumns.tables import Table
>>> table = Table([(0, 0), (1, 1), (0, 1)])
>>> [orders_by_changes(table, (1, 1)), average_changes(table, (1, 1)), most_changes(table, (1, 1)), nth_with_changes(table, (1, 1), 3, 0), changes_index(table, (1, 1), ((0, 1), (1, 1), (0, 0)))]
[{2: 2, 3: 4}, (8, 3), 3, ((0, 0), (1, 1), (0, 1)), 2]
>>> [worst_order(table, (1, 1)).shows(table, (1, 1)), worst_order(table, (1, 1)).rest[(((0, 0),), (1, 1))], Worst(((0, 0), (0, 1), (1, 1)), {}).shows(table, (1, 1))]
[True, 2, False]
"""

TABLES = few_different(5, many=40) + few_different(5, many=30, seed=4, width=3, top=2)


def orders_by_cost(table, prices):
    """All orders of the different rows, by what they cost, each list ascending."""
    found = collections.defaultdict(list)
    for order in itertools.permutations(different(table)):
        found[walked(order, prices)].append(order)
    return {cost: found[cost] for cost in sorted(found)}


def all_rest(table, prices):
    """The whole dict of a Worst, by trying all ways."""
    return {
        (left, row): max(walked((row,) + way, prices) for way in itertools.permutations(left))
        for left, row in ways_left(table)
    }


class AllOrdersTest(Case):

    def test_examples(self):
        self.check_examples(EXAMPLES)

    def test_against_all_orders(self):
        for table in TABLES + [SEVEN]:
            for prices in some_prices(table.width)[1:]:
                found = orders_by_cost(table, prices)
                self.check_costs(table, prices, found)
                for cost, orders in found.items():
                    for index in sorted({0, 1, len(orders) // 2, len(orders) - 1} & set(range(len(orders)))):
                        self.assertEqual(nth_with_changes(table, prices, cost, index), orders[index])
                        self.assertEqual(changes_index(table, prices, orders[index]), index)
                    self.refused(BadIndex, nth_with_changes, table, prices, cost, len(orders))

    def check_costs(self, table, prices, found):
        told = orders_by_changes(table, prices)
        self.assertEqual(list(told.items()), [(cost, len(orders)) for cost, orders in found.items()])
        self.assertEqual(most_changes(table, prices), max(found))
        self.assertIn(worst_order(table, prices).order, found[max(found)])
        average = fractions.Fraction(
            sum(cost * len(orders) for cost, orders in found.items()), sum(map(len, found.values())))
        self.assertEqual(average_changes(table, prices), (average.numerator, average.denominator))

    def test_every_index_there_and_back(self):
        for table, prices in [(CORNERS, (1, 1)), (CORNERS, (0, 0)), (CORNERS, (5, 1))] + [
            (table, prices) for table in TABLES[::4] for prices in some_prices(table.width)[-2:]
        ]:
            for cost, orders in orders_by_cost(table, prices).items():
                told = [nth_with_changes(table, prices, cost, index) for index in range(len(orders))]
                self.assertEqual(told, orders)
                self.assertEqual([changes_index(table, prices, order) for order in orders], list(range(len(orders))))

    def test_costs_that_no_order_has(self):
        for table, prices in [(CORNERS, (5, 3)), (SEVEN, (2, 4)), (Table([(3, 3)] * 4), (9, 9))]:
            found = orders_by_cost(table, prices)
            for cost in range(-3, max(found) + 4):
                if cost not in found:
                    self.refused(BadSizes, nth_with_changes, table, prices, cost, 0)
                    self.refused(BadSizes, nth_with_changes, table, prices, cost, None)

    def test_one_row(self):
        for table in (Table([(3, 6)]), Table([(3, 6)] * 10)):
            for prices in ((9, 9), (0, 0)):
                self.assertEqual(orders_by_changes(table, prices), {0: 1})
                self.assertEqual((average_changes(table, prices), most_changes(table, prices)), ((0, 1), 0))
                self.assertEqual(nth_with_changes(table, prices, 0, 0), ((3, 6),))
                self.assertEqual(changes_index(table, prices, ((3, 6),)), 0)
                found = worst_order(table, prices)
                self.assertEqual((found.order, found.rest), (((3, 6),), {((), (3, 6)): 0}))
                self.assertTrue(found.shows(table, prices))

    def test_seven_rows(self):
        self.assertEqual(orders_by_changes(Table([(at,) for at in range(7)]), (3,)), {18: 5040})
        self.assertEqual(orders_by_changes(SEVEN, (0, 0)), {0: 5040})
        orders = list(itertools.permutations(different(SEVEN)))
        for index in (0, 1, 719, 720, 5039):
            self.assertEqual(nth_with_changes(SEVEN, (0, 0), 0, index), orders[index])
            self.assertEqual(changes_index(SEVEN, (0, 0), orders[index]), index)
        self.refused(BadIndex, nth_with_changes, SEVEN, (0, 0), 0, 5040)

    def test_all_and_the_best_agree(self):
        for table in TABLES:
            for prices in some_prices(table.width)[-2:]:
                told = orders_by_changes(table, prices)
                least = least_changes(table, prices)
                self.assertEqual((min(told), told[least]), (least, count_best(table, prices)))
                self.assertEqual(sum(told.values()), math.factorial(len(different(table))))
                last = told[least] - 1
                self.assertEqual(nth_with_changes(table, prices, least, last), nth_best(table, prices, last))


class WorstTest(Case):

    def test_rest_against_all_ways(self):
        for table in TABLES:
            for prices in some_prices(table.width)[-3:]:
                found = worst_order(table, prices)
                self.assertEqual(found.rest, all_rest(table, prices))
                self.assertIsInstance(found.order, tuple)
                self.assertTrue(found.shows(table, prices))
        self.assertEqual(worst_order(SEVEN, (2, 1)).rest, all_rest(SEVEN, (2, 1)))

    def test_all_orders_are_judged(self):
        for table in [table for table in TABLES if len(different(table)) <= 4]:
            for prices in some_prices(table.width)[-3:]:
                rest, found = all_rest(table, prices), orders_by_cost(table, prices)
                for cost, orders in found.items():
                    for order in orders:
                        self.assertEqual(Worst(order, rest).shows(table, prices), cost == max(found))
                        self.assertEqual(Worst(list(order), rest).shows(table, prices), cost == max(found))

    def test_the_whole_dict_is_judged(self):
        prices = (5, 1)
        order = worst_order(CORNERS, prices).order
        strangers = [((), (5, 5)), (((0, 0),), (0, 0)), (((0, 1), (0, 0)), (1, 1)), (((5, 5),), (0, 0)), ((), (0,)), (), 0]
        self.check_dict(
            lambda rest: Worst(order, rest).shows(CORNERS, prices), all_rest(CORNERS, prices), strangers + [((), None)])
        rest = all_rest(SEVEN, (2, 1))
        names = list(rest)
        random.Random(2).shuffle(names)
        worst = worst_order(SEVEN, (2, 1)).order
        self.assertTrue(Worst(worst, {name: rest[name] for name in names}).shows(SEVEN, (2, 1)))

    def test_only_right_orders(self):
        order, rest = worst_order(CORNERS, (5, 1)).order, all_rest(CORNERS, (5, 1))
        self.assertTrue(Worst(order, rest).shows(CORNERS, (5, 1)))
        self.assertFalse(Worst(order, rest).shows(CORNERS, (5, 2)))
        wrong = [(), order[:2], order + order[:1], order[:2] + order[:1], order[:2] + ((5, 5),), order[:2] + ((0,),)]
        for rows in wrong + [order[:2] + ((HUGE, 0),), order[:2] + ((),), order * 2]:
            self.assertFalse(Worst(rows, rest).shows(CORNERS, (5, 1)), rows)

    def test_booleans_are_not_integers(self):
        order, rest = worst_order(CORNERS, (1, 1)).order, all_rest(CORNERS, (1, 1))
        flagged = tuple(tuple(bool(value) for value in row) for row in order)
        self.assertFalse(Worst(flagged, rest).shows(CORNERS, (1, 1)))
        self.refused(BadOrder, changes_index, CORNERS, (1, 1), flagged)
        named = {((), (False, 0)) if key == ((), (0, 0)) else key: rest[key] for key in rest}
        self.assertEqual(named, rest)
        self.assertFalse(Worst(order, named).shows(CORNERS, (1, 1)))

    def test_current_attributes_are_judged(self):
        found = worst_order(CORNERS, (1, 1))
        found.order = ((0, 0), (0, 1), (1, 1))
        self.assertFalse(found.shows(CORNERS, (1, 1)))
        found.order = [(0, 0), (1, 1), (0, 1)]
        self.assertTrue(found.shows(CORNERS, (1, 1)))
        found.rest.popitem()
        self.assertFalse(found.shows(CORNERS, (1, 1)))

    def test_copies(self):
        order, rest = [(0, 0)], {((), (0, 0)): 0}
        found = Worst(order, rest)
        order.clear()
        rest.clear()
        self.assertEqual((found.order, found.rest), (((0, 0),), {((), (0, 0)): 0}))
        worst_order(CORNERS, (1, 1)).rest.clear()
        orders_by_changes(CORNERS, (1, 1)).clear()
        self.assertTrue(worst_order(CORNERS, (1, 1)).shows(CORNERS, (1, 1)))
        self.assertEqual(orders_by_changes(CORNERS, (1, 1)), {2: 2, 3: 4})

    def test_equal(self):
        self.check_equality(
            lambda: Worst([(0, 0)], {}), lambda: Worst((), {}), lambda: Worst(((0, 0),), {((), (0, 0)): 0}),
            lambda: Best([(0, 0)], {}))
        self.assertEqual(worst_order(CORNERS, (1, 1)), worst_order(CORNERS, (1, 1)))


class AllOrdersErrorsTest(Case):

    def test_wrong_arguments(self):
        for table, width in ((CORNERS, 2), (SEVEN, 2), (Table([(0,)]), 1), (Table([(0, 1, 2, 3)] * 10), 4)):
            prices = (9,) * width
            arguments = ((table, BadTable, NO_TABLES), (prices, BadPrices, wrong_prices(width)))
            for call in (orders_by_changes, average_changes, worst_order, most_changes, Worst((), {}).shows):
                self.check_arguments(call, *arguments)
            cost = most_changes(table, prices)
            many = orders_by_changes(table, prices)[cost]
            self.check_arguments(
                nth_with_changes, *arguments, (cost, BadSizes, NO_NUMBERS + [cost + 1]),
                (many - 1, BadIndex, wrong_numbers(0, many - 1)))

    def test_wrong_orders(self):
        right = different(CORNERS)
        self.check_arguments(
            changes_index, (CORNERS, BadTable, NO_TABLES), ((5, 1), BadPrices, wrong_prices(2)),
            (tuple(right), BadOrder, wrong_row_orders(tuple(right))))

    def test_too_large(self):
        for call in (orders_by_changes, average_changes, worst_order, most_changes, Worst((), {}).shows):
            self.refused(TooLarge, call, EIGHT, (1, 1))
            for prices in wrong_prices(2):
                self.refused(BadPrices, call, EIGHT, prices)
        for wrong in (None, 0, ()):
            self.refused(TooLarge, nth_with_changes, EIGHT, (1, 1), wrong, wrong)
            self.refused(TooLarge, changes_index, EIGHT, (1, 1), wrong)
            self.refused(BadPrices, nth_with_changes, EIGHT, (1, 10), wrong, wrong)
            self.refused(BadPrices, changes_index, EIGHT, (1, 10), wrong)


if __name__ == "__main__":
    unittest.main()
