"""[9] Inserted rows."""

import itertools
import random
import unittest

from runcolumns.errors import BadColumn, BadIndex, BadPrices, BadRow, BadTable, TooLarge
from runcolumns.placing import Grown, best_gaps, grow, put_best, put_cost, set_cost, take_cost, tree_cost
from runcolumns.runs import cost
from runcolumns.tables import Table
from tests.cases import Case
from tests.samples import (
    HUGE, NO_TABLES, priced, some_prices, some_tables, walked, whole_cost, wrong_numbers, wrong_prices, wrong_rows,
)

EXAMPLES = """
>>> from runcolumns.placing import Grown, best_gaps, grow, put_best, put_cost, set_cost, take_cost, tree_cost
>>> from runcolumns.tables import Table
>>> table = Table([(1, 0), (0, 0), (1, 0), (0, 2)])
>>> [[put_cost(table, index, (0, 2), (1, 1)) for index in range(5)], best_gaps(table, (0, 2), (1, 1)), take_cost(table, 1, (1, 1)), set_cost(table, 3, 1, 0, (2, 5))]
[[2, 2, 2, 0, 0], [3, 4], -2, -5]
>>> [tree_cost(table, (1, 1)), grow(table, (1, 1)).shows(table, (1, 1)), Grown((0, 2, 1, 3), [(2, 0), (1, 0), (3, 1)]).shows(table, (1, 1)), put_best(table, (0, 2), (1, 1)).rows[3]]
[2, True, True, (0, 2)]
"""

TABLE = Table([(1, 0), (0, 0), (1, 0), (0, 2)])
TEN = Table([(at % 3, at % 2) for at in range(10)])


def some_rows(table, seed=1):
    """Some rows that could stand in a table."""
    chance = random.Random(seed)
    found = [table.rows[0], table.rows[-1], (0,) * table.width, (6,) * table.width]
    return found + [tuple(chance.randint(0, 6) for _ in range(table.width)) for _ in range(2)]


def least_tree_cost(table, prices):
    """The least cost of a tree, by taking the shortest ties that close no ring."""
    home = list(range(len(table)))
    pairs = itertools.combinations(range(len(table)), 2)
    total = 0
    for length, one, other in sorted((priced(table[one], table[other], prices), one, other) for one, other in pairs):
        if home[one] != home[other]:
            total += length
            home = [home[one] if place == home[other] else place for place in home]
    return total


def are_right_ties(table, prices, ties):
    """Whether ties are as in [9], by reckoning all distances after each pair."""
    present = {0}
    for one, other in ties:
        absent = set(range(len(table))) - present
        if one not in absent or other not in present:
            return False
        nearest = min(priced(table[far], table[near], prices) for far in absent for near in present)
        if priced(table[one], table[other], prices) != nearest:
            return False
        present.add(one)
    return len(ties) == len(table) - 1


class CostsTest(Case):

    def test_examples(self):
        self.check_examples(EXAMPLES)

    def test_put_against_the_table_behind_it(self):
        for table in some_tables():
            for prices in some_prices(table.width):
                before = whole_cost(table.rows, prices)
                for row in some_rows(table):
                    increases = []
                    for index in range(len(table) + 1):
                        rows = table.rows[:index] + (row,) + table.rows[index:]
                        increases.append(whole_cost(rows, prices) - before)
                        self.assertEqual(put_cost(table, index, row, prices), increases[-1])
                    gaps = [at for at, increase in enumerate(increases) if increase == min(increases)]
                    self.assertEqual(best_gaps(table, row, prices), gaps)
                    if len(table) < 10:
                        rows = table.rows[:gaps[0]] + (row,) + table.rows[gaps[0]:]
                        self.assertEqual(put_best(table, row, prices), Table(rows))
                        self.assertEqual(cost(put_best(table, row, prices), prices), before + min(increases))

    def test_take_against_the_table_behind_it(self):
        for table in some_tables():
            for prices in some_prices(table.width):
                for index in range(len(table)):
                    rows = table.rows[:index] + table.rows[index + 1:]
                    if rows:
                        change = whole_cost(rows, prices) - whole_cost(table.rows, prices)
                        self.assertEqual(take_cost(table, index, prices), change)

    def test_set_against_the_table_behind_it(self):
        for table in some_tables(many=25):
            for prices in some_prices(table.width):
                for index, c, value in itertools.product(range(len(table)), range(table.width), (0, 1, 3, 6)):
                    rows = [list(row) for row in table.rows]
                    rows[index][c] = value
                    change = whole_cost(rows, prices) - whole_cost(table.rows, prices)
                    self.assertEqual(set_cost(table, index, c, value, prices), change)

    def test_either_end_and_one_row(self):
        self.assertEqual([put_cost(TABLE, index, (5, 0), (2, 3)) for index in (0, 4)], [2, 5])
        one = Table([(0, 6)])
        self.assertEqual([put_cost(one, index, (1, 6), (4, 9)) for index in (0, 1)], [4, 4])
        self.assertEqual(best_gaps(one, (1, 6), (4, 9)), [0, 1])
        self.assertEqual(put_best(one, (1, 6), (4, 9)).rows, ((1, 6), (0, 6)))
        self.assertEqual(set_cost(one, 0, 1, 0, (4, 9)), 0)
        self.assertEqual(take_cost(Table([(0,), (1,)]), 1, (9,)), -9)

    def test_ten_rows(self):
        self.assertEqual([put_cost(TEN, index, (0, 0), (1, 1)) for index in (0, 10)], [0, 1])
        self.assertEqual(best_gaps(TEN, (0, 0), (0, 0)), list(range(11)))
        self.refused(TooLarge, put_best, TEN, (0, 0), (1, 1))

    def test_returned_lists_are_new(self):
        best_gaps(TABLE, (0, 2), (1, 1)).clear()
        grow(TABLE, (1, 1)).ties.clear()
        self.assertEqual(best_gaps(TABLE, (0, 2), (1, 1)), [3, 4])
        self.assertTrue(grow(TABLE, (1, 1)).shows(TABLE, (1, 1)))


class GrownTest(Case):

    def test_grow_against_all_distances(self):
        for table in some_tables(many=60) + some_tables(many=40, seed=8, top=1):
            for prices in some_prices(table.width):
                found = grow(table, prices)
                self.assertEqual(sorted(found.order), list(range(len(table))))
                self.assertTrue(are_right_ties(table, prices, found.ties))
                ties = sum(priced(table[one], table[other], prices) for one, other in found.ties)
                self.assertEqual(ties, least_tree_cost(table, prices))
                self.assertEqual(tree_cost(table, prices), ties)
                self.assertLessEqual(walked([table[at] for at in found.order], prices), 2 * ties)
                self.assertTrue(found.shows(table, prices))

    def test_shows_against_all_orders_and_ties(self):
        for table in some_tables(many=25, rows=4, top=2):
            for prices in some_prices(table.width)[:4]:
                found = grow(table, prices)
                for order in itertools.permutations(range(len(table))):
                    right = walked([table[at] for at in order], prices) <= 2 * tree_cost(table, prices)
                    self.assertEqual(Grown(order, found.ties).shows(table, prices), right)
                    self.assertEqual(Grown(list(order), found.ties).shows(table, prices), right)
                pairs = list(itertools.product(range(len(table)), repeat=2))
                for at, pair in itertools.product(range(len(found.ties)), pairs):
                    ties = found.ties[:at] + [pair] + found.ties[at + 1:]
                    right = are_right_ties(table, prices, ties)
                    self.assertEqual(Grown(found.order, ties).shows(table, prices), right)

    def test_twice_as_much_is_allowed(self):
        line = Table([(0,), (1,), (0,), (1,), (0,)])
        ties = [(2, 0), (4, 0), (1, 0), (3, 1)]
        self.assertTrue(Grown((0, 1, 3, 2, 4), ties).shows(line, (1,)))
        self.assertFalse(Grown((0, 1, 2, 4, 3), ties).shows(line, (1,)))

    def test_shows_only_what_is_right(self):
        order, ties = (0, 2, 1, 3), [(2, 0), (1, 0), (3, 1)]
        self.assertTrue(Grown(order, ties).shows(TABLE, (1, 1)))
        for wrong in [(), (0,), (0, 2, 1), (0, 2, 1, 1), (0, 2, 1, 3, 3), (0, 2, 1, 4), (0, 2, 1, -1), (HUGE, 2, 1, 3)]:
            self.assertFalse(Grown(wrong, ties).shows(TABLE, (1, 1)), wrong)
        wrong_ties = [[], ties[:2], ties + [(3, 1)], ties[::-1], [(2, 0), (1, 0), (1, 3)], [(2, 0), (1, 0), (3, 0)]]
        wrong_ties += [[(2, 0), (1, 0), (2, 0)], [(2, 0), (1, 0), (3, 4)], [(2, 0), (1, 0), (-1, 1)], [(0, 0)] * 3]
        wrong_ties += [[(2, 0), (1, 0), (HUGE, 1)], [(2, 0), (3, 1), (1, 0)], [(1, 0), (2, 0), (3, 1)], [(0, 2)] + ties[1:]]
        for wrong in wrong_ties:
            self.assertFalse(Grown(order, wrong).shows(TABLE, (1, 1)), wrong)
        self.assertTrue(Grown(order, [(2, 0), (1, 2), (3, 1)]).shows(TABLE, (1, 1)))
        self.assertTrue(Grown((0,), []).shows(Table([(3,)]), (1,)))
        self.assertFalse(Grown((False, 2, True, 3), ties).shows(TABLE, (1, 1)))
        self.assertFalse(Grown(order, [(2, False), (1, 0), (3, 1)]).shows(TABLE, (1, 1)))

    def test_current_attributes_are_judged(self):
        found = grow(TABLE, (1, 1))
        found.order = (3, 0, 1, 1)
        self.assertFalse(found.shows(TABLE, (1, 1)))
        found = grow(TABLE, (1, 1))
        found.ties[0] = (3, 0)
        self.assertFalse(found.shows(TABLE, (1, 1)))

    def test_equal(self):
        self.check_equality(
            lambda: Grown([0, 1], [(1, 0)]), lambda: Grown((1, 0), [(1, 0)]), lambda: Grown((0, 1), []),
            lambda: Grown((), []),
        )

    def test_evidence_is_copied(self):
        order, ties = [0, 1], [(1, 0)]
        found = Grown(order, ties)
        order.clear()
        ties.clear()
        self.assertEqual((found.order, found.ties), ((0, 1), [(1, 0)]))


class PlacingErrorsTest(Case):

    def test_wrong_arguments(self):
        for table in (TABLE, TEN, Table([(0, 6)])):
            many, row, prices = len(table), (6, 0), (9, 0)
            a_table, a_row = (table, BadTable, NO_TABLES), (row, BadRow, wrong_rows(2))
            some = (prices, BadPrices, wrong_prices(2))
            self.check_arguments(put_cost, a_table, (many, BadIndex, wrong_numbers(0, many)), a_row, some)
            self.check_arguments(
                set_cost, a_table, (many - 1, BadIndex, wrong_numbers(0, many - 1)), (1, BadColumn, wrong_numbers(0, 1)),
                (6, BadRow, wrong_numbers(0, 6)), some)
            self.check_arguments(best_gaps, a_table, a_row, some)
            for call in (grow, tree_cost, Grown((0,), []).shows):
                self.check_arguments(call, a_table, some)
        for table in (TABLE, TEN):
            many = len(table)
            self.check_arguments(
                take_cost, (table, BadTable, NO_TABLES), (many - 1, BadIndex, wrong_numbers(0, many - 1)),
                ((9, 0), BadPrices, wrong_prices(2)))
        self.check_arguments(
            put_best, (TABLE, BadTable, NO_TABLES), ((6, 0), BadRow, wrong_rows(2)), ((9, 0), BadPrices, wrong_prices(2)))

    def test_the_only_row_is_not_taken(self):
        for wrong in wrong_numbers(0, -1) + [0]:
            for prices in ((1, 1), None):
                self.refused(BadIndex, take_cost, Table([(0, 6)]), wrong, prices)

    def test_too_large_comes_last(self):
        for row in wrong_rows(2):
            self.refused(BadRow, put_best, TEN, row, (1, 1))
            self.refused(BadRow, put_best, TEN, row, None)
        for prices in wrong_prices(2):
            self.refused(BadPrices, put_best, TEN, (0, 0), prices)


if __name__ == "__main__":
    unittest.main()
