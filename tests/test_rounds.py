"""[31] Rings."""

import collections
import itertools
import unittest

from runcolumns.errors import BadIndex, BadPrices, BadSizes, BadTable
from runcolumns.rounds import (
    are_one_ring, around_cost, best_begins, count_rings, least_around, least_turn, period, turned_to,
)
from runcolumns.tables import Table
from tests.cases import Case
from tests.samples import NO_TABLES, priced, some_prices, some_tables, whole_cost, wrong_numbers, wrong_prices

EXAMPLES = """
>>> from runcolumns.rounds import are_one_ring, around_cost, best_begins, count_rings, least_around, least_turn, period, turned_to
>>> from runcolumns.tables import Table
>>> table = Table([(1, 0), (0, 0), (1, 0), (0, 2)])
>>> [around_cost(table, (1, 1)), best_begins(table, (1, 1)), least_around(table, (1, 1)), period(table), least_turn(table), turned_to(table, 3).rows[:2]]
[6, [0, 3], 6, 4, 1, ((0, 2), (1, 0))]
>>> [period(Table([(0,), (1,)] * 3)), are_one_ring(table, table.turned()), [count_rings(4, 2, changes) for changes in range(5)], count_rings(6, 3, 3)]
[2, True, [2, 0, 3, 0, 1], 20]
"""

TABLE = Table([(1, 0), (0, 0), (1, 0), (0, 2)])
TABLES = some_tables(many=50) + some_tables(many=30, seed=3, width=2, top=1) + [
    Table([(0,), (1,)] * 5), Table([(0,), (1,), (1,)] * 3), Table([(0, 1), (0, 2), (0, 1), (3, 3)] * 2),
    Table([(0,), (0,), (1,), (0,), (0,), (1,), (0,), (0,), (1,), (1,)]), Table([(5, 5)] * 7), Table([(1,), (0,)] * 4),
]


def turns_of(table):
    """The rows of all turns, each by going around."""
    many = len(table)
    return [tuple(table.rows[(first + at) % many] for at in range(many)) for first in range(many)]


def changes_around(column):
    """How many rows differ from the previous row in the ring."""
    return sum(column[at - 1] != column[at] for at in range(len(column)))


def rings_by_changes(many, values):
    """How many columns up to turning there are for each number of changes, by writing down each one's least turn."""
    least = set()
    for column in itertools.product(range(values), repeat=many):
        least.add(min(column[first:] + column[:first] for first in range(many)))
    return collections.Counter(map(changes_around, least))


def least_turns(many, values):
    """The least turns of all columns, one after the other, ascending (the method of Fredricksen and Maiorana)."""
    column = [0] * many
    yield tuple(column)
    at = many
    while at > 0:
        at -= 1
        if column[at] < values - 1:
            column[at] += 1
            for later in range(at + 1, many):
                column[later] = column[later - at - 1]
            if many % (at + 1) == 0:
                yield tuple(column)
            at = many


class RingsTest(Case):

    def test_examples(self):
        self.check_examples(EXAMPLES)

    def test_against_all_turns(self):
        for table in TABLES:
            turns = turns_of(table)
            self.assertEqual([turned_to(table, first).rows for first in range(len(table))], turns)
            self.assertEqual(least_turn(table), turns.index(min(turns)))
            self.assertEqual(period(table), next(at for at in range(1, len(table) + 1) if (turns * 2)[at] == table.rows))
            for prices in some_prices(table.width):
                around = sum(priced(table[at], table[(at + 1) % len(table)], prices) for at in range(len(table)))
                self.assertEqual(around_cost(table, prices), around)
                costs = [whole_cost(turn, prices) for turn in turns]
                self.assertEqual(least_around(table, prices), min(costs))
                self.assertEqual(best_begins(table, prices), [at for at, cost in enumerate(costs) if cost == min(costs)])
                before = [priced(turn[-1], turn[0], prices) for turn in turns]
                self.assertEqual(costs, [around + sum(prices) - cut for cut in before])

    def test_one_row(self):
        table = Table([(3, 4)])
        self.assertEqual((around_cost(table, (9, 9)), best_begins(table, (2, 5)), least_around(table, (2, 5))), (0, [0], 7))
        self.assertEqual((period(table), least_turn(table), turned_to(table, 0)), (1, 0, table))

    def test_equal_rows(self):
        table = Table([(3, 4)] * 10)
        self.assertEqual((around_cost(table, (9, 9)), best_begins(table, (2, 5))), (0, list(range(10))))
        self.assertEqual((least_around(table, (2, 5)), period(table), least_turn(table)), (7, 1, 0))

    def test_rows_again_and_again(self):
        for rows, times, found in [
            ([(0,), (1,)], 5, 2), ([(0,), (1,), (1,)], 3, 3), ([(0,), (1,), (2,), (1,)], 2, 4), ([(0,), (0,)], 5, 1),
            ([(0,), (1,), (0,), (1,)], 2, 2), ([(0, 1), (0, 2), (0, 1), (0, 3), (5, 5)], 2, 5), ([(0,), (1,), (0,)], 1, 3),
        ]:
            self.assertEqual(period(Table(rows * times)), found)
        columns = ([0, 1] * 5, [1, 0] * 4, [2, 1, 1, 0] * 2, [0, 1, 0], [0, 1, 0, 0, 1, 1], [1, 1, 1])
        self.assertEqual([least_turn(Table([(value,) for value in values])) for values in columns], [0, 1, 3, 2, 2, 0])

    def test_prices_of_nothing(self):
        self.assertEqual((around_cost(TABLE, (0, 0)), best_begins(TABLE, (0, 0)), least_around(TABLE, (0, 0))), (0, [0, 1, 2, 3], 0))
        self.assertEqual((around_cost(TABLE, (0, 9)), best_begins(TABLE, (0, 9))), (18, [0, 3]))

    def test_one_ring_against_all_turns(self):
        some = TABLES[::3] + [turned_to(table, len(table) - 1) for table in TABLES[::4]] + [table.turned() for table in TABLES[::5]]
        kinds = collections.Counter()
        for one, other in itertools.product(some, some):
            right = other.rows in turns_of(one)
            kinds[right, one == other] += 1
            self.assertEqual(are_one_ring(one, other), right)
        self.assertEqual(len(kinds), 3)

    def test_one_ring(self):
        self.assertTrue(are_one_ring(Table([(0,), (1,), (2,)]), Table([(2,), (0,), (1,)])))
        self.assertFalse(are_one_ring(Table([(0,), (1,), (2,)]), Table([(2,), (1,), (0,)])))
        self.assertFalse(are_one_ring(Table([(0,), (1,)]), Table([(0,), (1,)] * 2)))
        self.assertFalse(are_one_ring(Table([(0,), (1,)] * 2), Table([(0,), (1,)])))
        self.assertFalse(are_one_ring(Table([(0, 0)]), Table([(0,)])))
        self.assertFalse(are_one_ring(Table([(0,)]), Table([(0, 0)])))
        self.assertFalse(are_one_ring(Table([(0,), (0,), (1,)]), Table([(0,), (1,), (1,)])))

    def test_each_list_is_new(self):
        best_begins(TABLE, (1, 1)).clear()
        self.assertEqual(best_begins(TABLE, (1, 1)), [0, 3])


class CountRingsTest(Case):

    def test_against_all_columns(self):
        for many, values in list(itertools.product(range(1, 7), range(1, 4))) + [(4, 4), (7, 2), (10, 2), (5, 4)]:
            found = rings_by_changes(many, values)
            told = [count_rings(many, values, changes) for changes in range(many + 1)]
            self.assertEqual(told, [found[changes] for changes in range(many + 1)], (many, values))

    def test_ten_rows_with_four_values(self):
        for many, values in [(10, 4), (9, 4), (8, 4), (10, 3), (10, 1), (9, 3), (6, 3)]:
            found = collections.Counter(map(changes_around, least_turns(many, values)))
            told = [count_rings(many, values, changes) for changes in range(many + 1)]
            self.assertEqual(told, [found[changes] for changes in range(many + 1)], (many, values))
        self.assertEqual(sum(count_rings(10, 4, changes) for changes in range(11)), 104968)

    def test_the_least_turns_are_those_of_all_columns(self):
        for many, values in [(1, 1), (4, 3), (6, 3), (5, 4)]:
            least = {min(turns_of(Table([(value,) for value in column])))
                     for column in itertools.product(range(values), repeat=many)}
            self.assertEqual(list(least_turns(many, values)), sorted(tuple(value for value, in rows) for rows in least))

    def test_no_changes_and_one(self):
        for many in range(1, 11):
            for values in range(1, 5):
                self.assertEqual((count_rings(many, values, 0), count_rings(many, values, 1)), (values, 0))
                self.assertEqual(count_rings(many, 1, many), 0)


class RoundsErrorsTest(Case):

    def test_wrong_arguments(self):
        for table in (TABLE, TABLES[-2], Table([(0,)]), Table([(0, 1, 2, 3)] * 10)):
            tables = (table, BadTable, NO_TABLES)
            for call in (around_cost, best_begins, least_around):
                self.check_arguments(call, tables, ((9,) * table.width, BadPrices, wrong_prices(table.width)))
            for first in {0, len(table) - 1}:
                self.check_arguments(turned_to, tables, (first, BadIndex, wrong_numbers(0, len(table) - 1)))
            self.check_arguments(period, tables)
            self.check_arguments(least_turn, tables)
            self.check_arguments(are_one_ring, tables, tables)

    def test_wrong_numbers(self):
        for many in (1, 2, 10):
            for values in (1, 4):
                for changes in (0, many):
                    self.check_arguments(
                        count_rings, (many, BadSizes, wrong_numbers(1, 10)), (values, BadSizes, wrong_numbers(1, 4)),
                        (changes, BadIndex, wrong_numbers(0, many)))


if __name__ == "__main__":
    unittest.main()
