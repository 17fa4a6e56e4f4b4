"""[22] Columns together."""

import itertools
import unittest

from runcolumns.errors import BadColumn, BadOrder, BadTable
from runcolumns.tables import Table
from runcolumns.together import (
    Grouped, all_groupings, best_groups, count_best_groups, group_cost, group_runs, grouped_cost, least_grouped,
)
from tests.cases import Case
from tests.samples import HUGE, NO_TABLES, NO_TUPLES, ODD_ITEMS, columns_of, grouped_runs, some_tables, wrong_places

EXAMPLES = """
>>> from runcolumns.tables import Table
>>> from runcolumns.together import Grouped, all_groupings, best_groups, count_best_groups, group_cost, group_runs, grouped_cost, least_grouped
>>> table = Table([(0, 0, 0), (0, 0, 1), (1, 1, 0), (1, 1, 1)])
>>> [least_grouped(table), count_best_groups(table), best_groups(table).groups, best_groups(table).lots[(0, 1)], grouped_cost(table, ((0,), (1, 2))), len(all_groupings(table))]
[14, 1, ((0, 1), (2,)), 6, 16, 5]
>>> [group_runs(table, (0, 2)), group_cost(table, (0, 1)), Grouped((), {}).shows(table), best_groups(table).shows(table), all_groupings(Table([(0, 0)]))]
[4, 6, False, True, [((0,), (1,)), ((0, 1),)]]
"""

TABLE = Table([(0, 0, 0), (0, 0, 1), (1, 1, 0), (1, 1, 1)])
FOUR = Table([(0, 0, 1, 2), (0, 0, 1, 3), (1, 1, 2, 3), (1, 1, 2, 2), (1, 0, 2, 2)])
TABLES = some_tables(many=80) + some_tables(many=40, seed=4, top=1) + [TABLE, FOUR, Table([(0, 1, 0, 1)] * 10)]
NUMBERS = {1: 1, 2: 2, 3: 5, 4: 15}


def groupings_of(columns):
    """All ways to put some columns into groups, each as an ascending tuple of groups, ascending."""
    found = set()
    for labels in itertools.product(range(len(columns)), repeat=len(columns)):
        groups = {}
        for c, label in zip(columns, labels):
            groups.setdefault(label, []).append(c)
        found.add(tuple(sorted(tuple(group) for group in groups.values())))
    return sorted(found)


def cost_of(table, groups):
    """What groups cost, reckoned row by row."""
    cost = 0
    for group in groups:
        cost += len(grouped_runs([tuple(row[c] for c in group) for row in table.rows])) * (1 + len(group))
    return cost


def all_lots(table):
    return {columns: min(cost_of(table, groups) for groups in groupings_of(columns))
            for columns in columns_of(table.width)}


class TogetherTest(Case):

    def test_examples(self):
        self.check_examples(EXAMPLES)

    def test_all_groupings(self):
        for width, many in NUMBERS.items():
            found = all_groupings(Table([(0,) * width]))
            self.assertEqual(found, groupings_of(tuple(range(width))))
            self.assertEqual(len(found), many)
        self.assertEqual(all_groupings(Table([(5,)])), [((0,),)])
        self.assertEqual(all_groupings(TABLE)[:3], [((0,), (1,), (2,)), ((0,), (1, 2)), ((0, 1), (2,))])

    def test_costs_of_groups(self):
        for table in TABLES:
            for group in columns_of(table.width)[1:]:
                runs = len(grouped_runs([tuple(row[c] for c in group) for row in table.rows]))
                self.assertEqual(group_runs(table, group), runs)
                self.assertEqual(group_cost(table, group), runs * (1 + len(group)))
            for groups in groupings_of(tuple(range(table.width))):
                self.assertEqual(grouped_cost(table, groups), cost_of(table, groups))

    def test_against_all_ways(self):
        for table in TABLES:
            lots, every = all_lots(table), tuple(range(table.width))
            cheapest = [groups for groups in groupings_of(every) if cost_of(table, groups) == lots[every]]
            found = best_groups(table)
            self.assertEqual(least_grouped(table), lots[every])
            self.assertEqual(count_best_groups(table), len(cheapest))
            self.assertIn(found.groups, cheapest)
            self.assertEqual(list(found.lots.items()), list(lots.items()))
            self.assertEqual(found.lots[()], 0)
            self.assertTrue(found.shows(table))

    def test_all_groups_are_judged(self):
        for table in TABLES[::2] + [FOUR]:
            lots, every = all_lots(table), tuple(range(table.width))
            for groups in groupings_of(every):
                right = cost_of(table, groups) == lots[every]
                self.assertEqual(Grouped(groups, lots).shows(table), right)
                self.assertEqual(Grouped([list(group) for group in groups], lots).shows(table), right)

    def test_the_whole_dict_is_judged(self):
        for table in (TABLE, FOUR, Table([(3,)]), Table([(3, 3)] * 10)):
            found = best_groups(table)
            strangers = [(table.width,), (0, 0), (-1,), (HUGE,), (0, table.width), (1, 0)]
            self.check_dict(lambda lots: Grouped(found.groups, lots).shows(table), all_lots(table), strangers)
            flagged = {tuple({0: False, 1: True}.get(c, c) for c in columns): cost for columns, cost in found.lots.items()}
            self.assertFalse(Grouped(found.groups, flagged).shows(table))

    def test_wrong_groups(self):
        lots = all_lots(TABLE)
        self.assertTrue(Grouped(((0, 1), (2,)), lots).shows(TABLE))
        wrong = [(), ((),), ((0, 1),), ((2,), (0, 1)), ((1, 0), (2,)), ((0, 1), (2,), ()), ((0, 1), (2,), (2,)), ((0, 1), (3,))]
        wrong += [((0, 1, 2),), ((0,), (1,), (2,)), ((0, 1), (1, 2)), ((0, 1), (-1,)), ((0, 1), (HUGE,)), ((0, 0, 1), (2,))]
        wrong += [((False, 1), (2,)), ((0, True), (2,)), ((), (0, 1), (2,)), ((0, 1), (2, 3))]
        for groups in wrong:
            self.assertFalse(Grouped(groups, lots).shows(TABLE), groups)
            self.assertFalse(Grouped([list(group) for group in groups], lots).shows(TABLE), groups)
        self.assertFalse(Grouped(((0, 1), (2,)), lots).shows(Table(TABLE.rows[:3])))
        self.assertFalse(Grouped(((0, 1), (2,)), lots).shows(FOUR))

    def test_current_attributes_are_judged(self):
        found = best_groups(TABLE)
        found.groups = [[0, 1], [2]]
        self.assertTrue(found.shows(TABLE))
        found.groups[1].append(0)
        self.assertFalse(found.shows(TABLE))
        found = best_groups(TABLE)
        found.lots[(0,)] += 1
        self.assertFalse(found.shows(TABLE))

    def test_copies(self):
        group, lots = [0], {(): 0}
        groups = [group]
        found = Grouped(groups, lots)
        for held in (group, groups, lots):
            held.clear()
        self.assertEqual((found.groups, found.lots), (((0,),), {(): 0}))
        best_groups(TABLE).lots.clear()
        all_groupings(TABLE).clear()
        self.assertEqual((len(best_groups(TABLE).lots), len(all_groupings(TABLE))), (8, 5))

    def test_equal(self):
        self.check_equality(
            lambda: Grouped([[0]], {}), lambda: Grouped(((0,), (1,)), {}), lambda: Grouped(((0,),), {(): 0}),
            lambda: Grouped((), {}),
        )
        self.assertEqual(best_groups(FOUR), best_groups(FOUR))
        self.assertEqual(Grouped([[0]], {}), Grouped(((0,),), {}))


class TogetherErrorsTest(Case):

    def test_wrong_arguments(self):
        for table in (TABLE, FOUR, Table([(0,)]), Table([(0, 1)] * 10)):
            tables = (table, BadTable, NO_TABLES)
            for call in (best_groups, least_grouped, all_groupings, count_best_groups, Grouped((), {}).shows):
                self.check_arguments(call, tables)
            for places in ((0,), tuple(range(table.width))):
                for call in (group_runs, group_cost):
                    self.check_arguments(call, tables, (places, BadColumn, wrong_places(table.width)))

    def test_wrong_groups(self):
        right = ((0, 1), (2,))
        self.check_arguments(grouped_cost, (TABLE, BadTable, NO_TABLES), (right, BadOrder, NO_TUPLES))
        tuples = [(), ((0,),), ((0, 1),), ((2,), (0, 1)), ((0, 1), (2,), (2,)), ((0, 1), (1, 2)), ((0, 1), (0, 1), (2,))]
        tuples += [((0,), (1,)), ((1,), (0,), (2,)), ((0, 2), (1,), (2,)), ((0, 1, 2), (0,)), right * 1000]
        for groups in tuples:
            self.refused(BadOrder, grouped_cost, TABLE, groups)
        for item in [item for item in ODD_ITEMS if not isinstance(item, tuple)] + [0, [0, 1]]:
            for groups in ((item,), right + (item,), (item,) + right, ((5,), item), (item, (1, 0)), (((), item))):
                self.refused(BadOrder, grouped_cost, TABLE, groups)

    def test_the_first_that_is_no_group(self):
        for places in [places for places in wrong_places(3) if isinstance(places, tuple)]:
            for groups in ((places,), ((0, 1), places), (places, (0, 1)), ((2,), places), ((0, 1), (2,), places)):
                self.refused(BadColumn, grouped_cost, TABLE, groups)
        self.refused(BadColumn, grouped_cost, TABLE, ((True, 2), (0,)))

    def test_right_groups_raise_nothing(self):
        self.assertEqual(grouped_cost(TABLE, ((0,), (1,), (2,))), 2 * 2 + 2 * 2 + 4 * 2)
        self.assertEqual(grouped_cost(FOUR, ((0, 1, 2, 3),)), 25)


if __name__ == "__main__":
    unittest.main()
