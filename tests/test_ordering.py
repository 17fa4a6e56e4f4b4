"""[11] Best orders and [12] Ties."""

import itertools
import random
import unittest

from runcolumns.errors import BadIndex, BadOrder, BadPrices, BadTable, TooLarge
from runcolumns.ordering import (
    Best, Bound, best_index, best_order, count_best, least_changes, least_ties, least_tree, nth_best, round_order,
)
from runcolumns.tables import Table
from tests.cases import Case
from tests.samples import (
    CORNERS, EIGHT, HUGE, NO_TABLES, SEVEN, different, few_different, priced, some_prices, walked, ways_left,
    wrong_numbers, wrong_prices, wrong_row_orders,
)

EXAMPLES = """
>>> from runcolumns.ordering import Best, Bound, best_index, best_order, count_best, least_changes, least_ties, least_tree, nth_best
>>> from runcolumns.tables import Table
>>> table = Table([(0, 0), (1, 1), (0, 1)])
>>> [least_changes(table, (1, 1)), count_best(table, (1, 1)), nth_best(table, (1, 1), 1), best_index(table, (1, 1), ((1, 1), (0, 1), (0, 0)))]
[2, 2, ((1, 1), (0, 1), (0, 0)), 1]
>>> [best_order(table, (1, 1)).rest[(((0, 0), (1, 1)), (0, 1))], least_ties(table, (1, 1)), least_changes(table, (5, 1)), Bound([((0, 0), (1, 1)), ((0, 1), (1, 1))]).shows(table, (1, 1))]
[3, 2, 6, False]
"""

TABLES = few_different(6, many=40) + few_different(5, many=30, seed=4, width=3, top=2)


def all_best(table, prices):
    """All best orders, by trying all."""
    orders = list(itertools.permutations(different(table)))
    least = min(walked(order, prices) for order in orders)
    return [order for order in orders if walked(order, prices) == least]


def all_rest(table, prices):
    """The whole dict of a Best, by trying all ways."""
    return {
        (left, row): min(walked((row,) + way, prices) for way in itertools.permutations(left))
        for left, row in ways_left(table)
    }


def all_ties(rows):
    return list(itertools.combinations(rows, 2))


def connect(rows, ties):
    """Whether every row can be reached from every other row along the ties."""
    reached = set(rows[:1])
    for _ in rows:
        reached |= {row for tie in ties if reached & set(tie) for row in tie}
    return reached == set(rows)


def ties_cost(ties, prices):
    return sum(priced(one, other, prices) for one, other in ties)


class BestOrdersTest(Case):

    def test_examples(self):
        self.check_examples(EXAMPLES)

    def test_against_all_orders(self):
        for table in TABLES:
            for prices in some_prices(table.width)[:4]:
                best = all_best(table, prices)
                self.assertEqual(least_changes(table, prices), walked(best[0], prices))
                self.assertEqual(count_best(table, prices), len(best))
                self.assertIn(best_order(table, prices).order, best)
                for index in sorted({0, 1, len(best) // 2, len(best) - 1} & set(range(len(best)))):
                    self.assertEqual(nth_best(table, prices, index), best[index])
                    self.assertEqual(best_index(table, prices, best[index]), index)
                self.refused(BadIndex, nth_best, table, prices, len(best))

    def test_all_indices(self):
        for table, prices in [(CORNERS, (1, 1)), (CORNERS, (0, 0)), (CORNERS, (0, 1)), (CORNERS, (5, 1))]:
            self.check_indices(table, prices)
        for table in TABLES[-12:]:
            self.check_indices(table, some_prices(table.width)[4])

    def check_indices(self, table, prices):
        best = all_best(table, prices)
        self.assertEqual([nth_best(table, prices, index) for index in range(len(best))], best)
        self.assertEqual([best_index(table, prices, order) for order in best], list(range(len(best))))
        for order in set(itertools.permutations(different(table))) - set(best):
            self.refused(BadOrder, best_index, table, prices, order)

    def test_seven_rows(self):
        self.assertEqual(count_best(Table([(at,) for at in range(7)] * 1), (3,)), 5040)
        for prices in ((1, 1), (0, 0), (0, 9), (2, 1)):
            best = all_best(SEVEN, prices)
            self.assertEqual(count_best(SEVEN, prices), len(best))
            self.assertEqual(least_changes(SEVEN, prices), walked(best[0], prices))
            for index in (0, len(best) // 3, len(best) - 1):
                self.assertEqual(nth_best(SEVEN, prices, index), best[index])
                self.assertEqual(best_index(SEVEN, prices, best[index]), index)
            self.assertTrue(best_order(SEVEN, prices).shows(SEVEN, prices))

    def test_one_row(self):
        for table in (Table([(3, 6)]), Table([(3, 6)] * 10)):
            found = best_order(table, (9, 9))
            self.assertEqual((found.order, found.rest), (((3, 6),), {((), (3, 6)): 0}))
            self.assertEqual((least_changes(table, (9, 9)), count_best(table, (9, 9))), (0, 1))
            self.assertEqual((nth_best(table, (9, 9), 0), best_index(table, (9, 9), ((3, 6),))), (((3, 6),), 0))
            self.assertTrue(found.shows(table, (9, 9)))

    def test_rest_against_all_ways(self):
        for table in TABLES:
            for prices in some_prices(table.width)[-3:]:
                found = best_order(table, prices)
                self.assertEqual(found.rest, all_rest(table, prices))
                self.assertIsInstance(found.order, tuple)
                self.assertTrue(found.shows(table, prices))

    def test_shows_against_all_orders(self):
        for table in [table for table in TABLES if len(set(table.rows)) <= 4]:
            for prices in some_prices(table.width)[-3:]:
                rest, best = all_rest(table, prices), all_best(table, prices)
                for order in itertools.permutations(different(table)):
                    self.assertEqual(Best(order, rest).shows(table, prices), order in best)
                    self.assertEqual(Best(list(order), rest).shows(table, prices), order in best)

    def test_shows_the_dict_in_any_order(self):
        rest = all_rest(SEVEN, (2, 1))
        names = list(rest)
        random.Random(2).shuffle(names)
        self.assertTrue(Best(all_best(SEVEN, (2, 1))[1], {name: rest[name] for name in names}).shows(SEVEN, (2, 1)))

    def test_shows_only_what_is_right(self):
        prices, order = (5, 1), all_best(CORNERS, (5, 1))[0]
        rest = all_rest(CORNERS, prices)
        self.assertTrue(Best(order, rest).shows(CORNERS, prices))
        self.assertFalse(Best(order, rest).shows(CORNERS, (5, 2)))
        for key in rest:
            self.assertFalse(Best(order, {held: rest[held] for held in rest if held != key}).shows(CORNERS, prices))
            for change in (-1, 1, HUGE):
                self.assertFalse(Best(order, {**rest, key: rest[key] + change}).shows(CORNERS, prices))
        for key in [((), (5, 5)), (((0, 0),), (0, 0)), (((0, 1), (0, 0)), (1, 1)), (((5, 5),), (0, 0)), ((), (0,))]:
            self.assertFalse(Best(order, {**rest, key: 0}).shows(CORNERS, prices))
        wrong = [(), order[:2], order + order[:1], order[:2] + order[:1], order[:2] + ((5, 5),), order[:2] + ((0,),)]
        for rows in wrong + [order[:2] + ((HUGE, 0),), order[:2] + ((),)]:
            self.assertFalse(Best(rows, rest).shows(CORNERS, prices), rows)

    def test_booleans_are_not_integers(self):
        order, rest = best_order(CORNERS, (1, 1)).order, all_rest(CORNERS, (1, 1))
        flagged = tuple(tuple(bool(value) for value in row) for row in order)
        self.assertFalse(Best(flagged, rest).shows(CORNERS, (1, 1)))
        self.refused(BadOrder, best_index, CORNERS, (1, 1), flagged)
        self.assertFalse(Best(order, {key: rest[key] if rest[key] else False for key in rest}).shows(CORNERS, (1, 1)))
        self.assertFalse(Bound([((False, 0), (0, 1)), ((0, 1), (1, 1))]).shows(CORNERS, (1, 1)))

    def test_current_attributes_are_judged(self):
        found = best_order(CORNERS, (1, 1))
        found.order = ((0, 0), (1, 1), (0, 1))
        self.assertFalse(found.shows(CORNERS, (1, 1)))
        found.order = [(1, 1), (0, 1), (0, 0)]
        self.assertTrue(found.shows(CORNERS, (1, 1)))
        found = best_order(CORNERS, (1, 1))
        found.rest.popitem()
        self.assertFalse(found.shows(CORNERS, (1, 1)))


class TiesTest(Case):

    def test_against_all_trees(self):
        for table in [table for table in TABLES if len(set(table.rows)) <= 5]:
            rows = different(table)
            trees = [tree for tree in itertools.combinations(all_ties(rows), len(rows) - 1) if connect(rows, tree)]
            for prices in some_prices(table.width)[-3:]:
                least = min(ties_cost(tree, prices) for tree in trees)
                self.assertEqual(least_ties(table, prices), least)
                found = least_tree(table, prices)
                self.assertIn(tuple(found.ties), trees)
                self.assertEqual(ties_cost(found.ties, prices), least)
                for tree in trees:
                    self.assertEqual(Bound(list(tree)).shows(table, prices), ties_cost(tree, prices) == least)

    def test_against_the_shortest_that_close_no_ring(self):
        for table in TABLES + [SEVEN, Table([(at,) * 4 for at in range(7)])]:
            rows = different(table)
            for prices in some_prices(table.width):
                taken, home = [], {row: row for row in rows}
                for one, other in sorted(all_ties(rows), key=lambda tie: priced(*tie, prices)):
                    if home[one] != home[other]:
                        taken.append((one, other))
                        home = {row: home[one] if home[row] == home[other] else home[row] for row in rows}
                found = least_tree(table, prices)
                self.assertEqual(least_ties(table, prices), ties_cost(taken, prices))
                self.assertEqual(ties_cost(found.ties, prices), ties_cost(taken, prices))
                self.assertEqual(found.ties, sorted(found.ties))
                self.assertTrue(found.shows(table, prices))
                self.assertTrue(Bound(found.ties[::-1]).shows(table, prices))
                self.assertTrue(connect(rows, found.ties))

    def test_round_order(self):
        for table in TABLES + [SEVEN]:
            for prices in some_prices(table.width):
                order = round_order(table, prices)
                self.assertIsInstance(order, tuple)
                self.assertEqual(sorted(order), different(table))
                self.assertLessEqual(walked(order, prices), 2 * least_ties(table, prices))
                self.assertLessEqual(least_ties(table, prices), least_changes(table, prices))

    def test_shows_only_what_is_right(self):
        ties = [((0, 0), (0, 1)), ((0, 1), (1, 1))]
        self.assertTrue(Bound(ties).shows(CORNERS, (1, 1)))
        self.assertTrue(Bound(ties[::-1]).shows(CORNERS, (1, 1)))
        wrong = [[], ties[:1], ties + ties[:1], ties[:1] * 2, ties + [((0, 0), (1, 1))], [ties[0], ((0, 0), (1, 1))]]
        wrong += [[ties[0], ((1, 1), (0, 1))], [ties[0], ((0, 1), (0, 1))], [ties[0], ((0, 1), (5, 5))]]
        wrong += [[ties[0], ((0, 0), (0, 0))], [ties[0], ((0,), (1,))], [ties[0], ((0, 1), (HUGE, 1))]]
        for some in wrong:
            self.assertFalse(Bound(some).shows(CORNERS, (1, 1)), some)
        square = Table([(0, 0), (0, 1), (5, 0), (5, 1)])
        self.assertFalse(Bound([((0, 0), (0, 1)), ((5, 0), (5, 1)), ((0, 0), (0, 1))]).shows(square, (0, 0)))
        ring = [((0, 0), (0, 1)), ((0, 0), (5, 0)), ((0, 1), (5, 1)), ((5, 0), (5, 1))]
        self.assertFalse(Bound(ring).shows(square, (0, 0)))
        self.assertTrue(Bound(ring[1:]).shows(square, (0, 0)))
        five = Table(list(square.rows) + [(6, 6)])
        self.assertFalse(Bound(ring).shows(five, (0, 0)))
        self.assertTrue(Bound([]).shows(Table([(0, 0)] * 4), (1, 1)))

    def test_current_ties_are_judged(self):
        found = least_tree(SEVEN, (1, 1))
        found.ties.pop()
        self.assertFalse(found.shows(SEVEN, (1, 1)))


class OrderingErrorsTest(Case):

    def test_wrong_arguments(self):
        for table, width in ((CORNERS, 2), (SEVEN, 2), (Table([(0,)]), 1), (Table([(0, 1, 2, 3)] * 10), 4)):
            arguments = ((table, BadTable, NO_TABLES), ((9,) * width, BadPrices, wrong_prices(width)))
            calls = [best_order, least_changes, count_best, least_tree, least_ties, round_order]
            for call in calls + [Best((), {}).shows, Bound([]).shows]:
                self.check_arguments(call, *arguments)
            many = count_best(table, (9,) * width)
            self.check_arguments(nth_best, *arguments, (many - 1, BadIndex, wrong_numbers(0, many - 1)))

    def test_wrong_orders(self):
        best = nth_best(CORNERS, (5, 1), 0)
        wrong = wrong_row_orders(best) + [((0, 1), (0, 0), (1, 1))]
        self.check_arguments(
            best_index, (CORNERS, BadTable, NO_TABLES), ((5, 1), BadPrices, wrong_prices(2)), (best, BadOrder, wrong))

    def test_too_large(self):
        calls = [best_order, least_changes, count_best, least_tree, least_ties, round_order]
        for call in calls + [Best((), {}).shows, Bound([]).shows]:
            self.refused(TooLarge, call, EIGHT, (1, 1))
            for prices in wrong_prices(2):
                self.refused(BadPrices, call, EIGHT, prices)
        for wrong in (None, 0, ()):
            self.refused(TooLarge, nth_best, EIGHT, (1, 1), wrong)
            self.refused(TooLarge, best_index, EIGHT, (1, 1), wrong)
            self.refused(BadPrices, nth_best, EIGHT, (1, 10), wrong)
            self.refused(BadPrices, best_index, EIGHT, (1, 10), wrong)

    def test_equal(self):
        self.check_equality(
            lambda: Best([(0, 0)], {}), lambda: Best((), {}), lambda: Best(((0, 0),), {((), (0, 0)): 0}),
            lambda: Bound([]), lambda: Bound([((0, 0), (0, 1))]),
        )
        self.assertEqual(best_order(CORNERS, (1, 1)), best_order(CORNERS, (1, 1)))

    def test_evidence_is_copied(self):
        order, rest, ties = [(0, 0)], {((), (0, 0)): 0}, [((0, 0), (0, 1))]
        best, bound = Best(order, rest), Bound(ties)
        for held in (order, rest, ties):
            held.clear()
        self.assertEqual((best.order, best.rest, bound.ties), (((0, 0),), {((), (0, 0)): 0}, [((0, 0), (0, 1))]))
        best_order(CORNERS, (1, 1)).rest.clear()
        least_tree(CORNERS, (1, 1)).ties.clear()
        self.assertTrue(best_order(CORNERS, (1, 1)).shows(CORNERS, (1, 1)))
        self.assertTrue(least_tree(CORNERS, (1, 1)).shows(CORNERS, (1, 1)))


if __name__ == "__main__":
    unittest.main()
