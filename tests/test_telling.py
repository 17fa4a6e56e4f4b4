"""[6] Telling."""

import itertools
import unittest

from runcolumns.errors import BadColumn, BadPrices, BadTable
from runcolumns.runs import cost, count_runs
from runcolumns.tables import Table
from runcolumns.telling import (
    Keys, Told, Untold, find_keys, is_told, judge_told, keys, kin, least_tellers, merged_prices, never_more,
)
from tests.cases import Case
from tests.samples import (
    HUGE, NO_TABLES, columns_of, some_prices, some_tables, wrong_columns, wrong_numbers, wrong_prices,
)

EXAMPLES = """
>>> from runcolumns.tables import Table
>>> from runcolumns.telling import Untold, find_keys, is_told, judge_told, keys, kin, least_tellers, merged_prices, never_more
>>> table = Table([(1, 0, 3), (0, 0, 3), (1, 0, 3), (0, 2, 4)])
>>> [is_told(table, (1,), 2), judge_told(table, (1,), 2).known, is_told(table, (0,), 1), Untold(1, 3).shows(table, (0,), 1), least_tellers(table, 2)]
[True, {(0,): 3, (2,): 4}, False, True, [(1,)]]
>>> [keys(table), kin(table), merged_prices(table, (1, 2, 3)), never_more(table, 1, 2), never_more(table, 1, 0), find_keys(table).shows(table), keys(Table([(5, 5)]))]
[[(0, 1), (0, 2)], [(0,), (1, 2)], (1, 5, 0), True, False, True, [()]]
"""

TABLE = Table([(1, 0, 3), (0, 0, 3), (1, 0, 3), (0, 2, 4)])
TABLES = some_tables(many=60) + some_tables(many=60, seed=3, top=2)


def part(row, columns):
    return tuple(row[c] for c in columns)


def pair_apart(table, columns, others):
    """Whether some rows are equal in the first columns, but not in the others."""
    pairs = itertools.combinations(table.rows, 2)
    return any(part(a, columns) == part(b, columns) and part(a, others) != part(b, others) for a, b in pairs)


def least(choices):
    """The choices that contain no other one."""
    return [one for one in choices if not any(set(other) < set(one) for other in choices)]


class TellingTest(Case):

    def test_examples(self):
        self.check_examples(EXAMPLES)

    def test_told_against_all_pairs(self):
        kinds = set()
        for table in TABLES:
            for columns in columns_of(table.width):
                for c in range(table.width):
                    told, found = not pair_apart(table, columns, (c,)), judge_told(table, columns, c)
                    self.assertEqual(is_told(table, columns, c), told)
                    self.assertIs(type(found), Told if told else Untold)
                    self.assertTrue(found.shows(table, columns, c))
                    if told:
                        self.assertEqual(found.known, {part(row, columns): row[c] for row in table.rows})
                    kinds.add((told, len(columns)))
        self.assertEqual(len(kinds), 9)

    def test_no_columns(self):
        self.assertTrue(is_told(Table([(5, 0), (5, 1)]), (), 0))
        self.assertEqual(judge_told(Table([(5, 0), (5, 1)]), (), 0).known, {(): 5})
        self.assertFalse(is_told(Table([(5, 0), (5, 1)]), (), 1))
        self.assertTrue(Untold(1, 0).shows(Table([(5, 0), (5, 1)]), (), 1))

    def test_least_tellers(self):
        for table in TABLES:
            for c in range(table.width):
                telling = [some for some in columns_of(table.width) if c not in some]
                telling = [some for some in telling if not pair_apart(table, some, (c,))]
                self.assertEqual(least_tellers(table, c), least(telling))
        self.assertEqual(least_tellers(Table([(4,), (4,)]), 0), [()])
        self.assertEqual(least_tellers(Table([(4,), (5,)]), 0), [])

    def test_never_more_against_choices_and_orders(self):
        for table in some_tables(many=40, rows=4, width=3, top=1) + some_tables(many=30, seed=7, rows=4, width=3):
            for c, d in itertools.product(range(table.width), repeat=2):
                expected = True
                for many in range(1, len(table) + 1):
                    for rows in itertools.permutations(table.rows, many):
                        runs = [count_runs(Table([(row[at],) for row in rows])) for at in (c, d)]
                        expected = expected and runs[0] <= runs[1]
                self.assertEqual(never_more(table, c, d), expected)

    def test_never_more_is_telling(self):
        for table in TABLES:
            for c, d in itertools.product(range(table.width), repeat=2):
                self.assertEqual(never_more(table, c, d), is_told(table, (d,), c))

    def test_keys_against_all_pairs(self):
        for table in TABLES:
            every = tuple(range(table.width))
            telling = [some for some in columns_of(table.width) if not pair_apart(table, some, every)]
            self.assertEqual(keys(table), least(telling))
            found = find_keys(table)
            self.assertEqual(found.least, least(telling))
            self.assertEqual(set(found.pairs), set(columns_of(table.width)) - set(telling))
            self.assertTrue(found.shows(table))

    def test_kin_and_merged_prices(self):
        for table in TABLES:
            every = range(table.width)
            kinships = {tuple(d for d in every if is_told(table, (c,), d) and is_told(table, (d,), c)) for c in every}
            self.assertEqual(kin(table), sorted(kinships))
            for prices in some_prices(table.width):
                merged = merged_prices(table, prices)
                for group in kinships:
                    self.assertEqual(merged[group[0]], sum(prices[c] for c in group))
                    self.assertFalse(any(merged[c] for c in group[1:]))
                for order in (range(len(table)), sorted(range(len(table)), key=lambda at: table.rows[at])):
                    ordered = table.ordered(tuple(order))
                    by_columns = sum(cost(Table([(row[c],) for row in ordered.rows]), (1,)) * merged[c] for c in every)
                    self.assertEqual(by_columns, cost(ordered, prices))
        self.assertEqual(merged_prices(Table([(0, 1, 0, 1), (1, 2, 1, 0)]), (9, 9, 9, 9)), (36, 0, 0, 0))


class TellingEvidenceTest(Case):

    def test_told_shows_only_what_is_right(self):
        self.assertTrue(Told({(2,): 4, (0,): 3}).shows(TABLE, (1,), 2))
        wrong = [{}, {(0,): 3}, {(0,): 3, (2,): 3}, {(0,): 3, (2,): 4, (5,): 0}, {(0, 0): 3, (2,): 4}, {(0,): 3, (1,): 4}]
        for known in wrong + [{(0,): 3, (2,): 4, (): 0}, {(0,): HUGE, (2,): 4}]:
            self.assertFalse(Told(known).shows(TABLE, (1,), 2), known)
        self.assertFalse(Told({(0,): 3, (2,): 4}).shows(TABLE, (2,), 1))
        self.assertTrue(Told({(): 5}).shows(Table([(5,)] * 2), (), 0))

    def test_told_shows_nothing_that_is_not_told(self):
        for known in ({(0,): 0, (1,): 0}, {(0,): 2, (1,): 0}, {(1,): 0}, {}):
            self.assertFalse(Told(known).shows(TABLE, (0,), 1))

    def test_untold_against_all_pairs(self):
        for table in some_tables(many=15, top=2):
            for columns in columns_of(table.width):
                for c in range(table.width):
                    for one, other in itertools.product(range(-1, len(table) + 1), repeat=2):
                        right = one in range(len(table)) and other in range(len(table))
                        right = right and part(table.rows[one], columns) == part(table.rows[other], columns)
                        right = right and table.rows[one][c] != table.rows[other][c]
                        self.assertEqual(Untold(one, other).shows(table, columns, c), right)
        self.assertFalse(Untold(HUGE, 1).shows(TABLE, (0,), 1))
        self.assertFalse(Untold(1, -HUGE).shows(TABLE, (0,), 1))

    def test_current_attributes_are_judged(self):
        told, untold = judge_told(TABLE, (1,), 2), Untold(1, 3)
        told.known[(0,)] = 4
        self.assertFalse(told.shows(TABLE, (1,), 2))
        told.known[(0,)] = 3
        self.assertTrue(told.shows(TABLE, (1,), 2))
        untold.other = 0
        self.assertFalse(untold.shows(TABLE, (0,), 1))
        found = find_keys(TABLE)
        found.least.pop()
        self.assertFalse(found.shows(TABLE))

    def test_keys_in_any_order(self):
        for table in TABLES:
            found = find_keys(table)
            turned = {columns: found.pairs[columns][::-1] for columns in reversed(list(found.pairs))}
            self.assertTrue(Keys(found.least[::-1], turned).shows(table))

    def test_keys_with_any_pairs(self):
        for table in some_tables(many=10, top=2, rows=5):
            found = find_keys(table)
            for columns in found.pairs:
                for pair in itertools.product(range(-1, len(table) + 1), repeat=2):
                    one, other = [table.rows[at] if at in range(len(table)) else None for at in pair]
                    right = one is not None and other is not None and one != other
                    right = right and part(one, columns) == part(other, columns)
                    changed = Keys(found.least, {**found.pairs, columns: pair})
                    self.assertEqual(changed.shows(table), right)

    def test_keys_shows_only_what_is_right(self):
        found = find_keys(TABLE)
        first = found.least[0]
        for least_keys in ([], found.least[1:], found.least + [first], found.least + [(0, 1, 2)], [(1, 0), (0, 2)], [()]):
            self.assertFalse(Keys(least_keys, found.pairs).shows(TABLE), least_keys)
        for columns in found.pairs:
            fewer = {held: found.pairs[held] for held in found.pairs if held != columns}
            self.assertFalse(Keys(found.least, fewer).shows(TABLE))
        for columns in [(0, 1), (1, 0), (3,), (0, 1, 2), (HUGE,)]:
            self.assertFalse(Keys(found.least, {**found.pairs, columns: (0, 1)}).shows(TABLE))
        self.assertFalse(Keys([(0,)], {(): (0, 1)}).shows(Table([(5,), (5,)])))
        self.assertTrue(Keys([()], {}).shows(Table([(5,), (5,)])))

    def test_booleans_are_not_integers(self):
        self.assertFalse(Told({(False,): 3, (2,): 4}).shows(TABLE, (1,), 2))
        self.assertFalse(Told({(0,): True}).shows(Table([(0, 1)]), (0,), 1))
        self.assertFalse(Untold(True, 3).shows(TABLE, (0,), 1))
        found = find_keys(TABLE)
        self.assertFalse(Keys([(False, True), (0, 2)], found.pairs).shows(TABLE))
        self.assertFalse(Keys(found.least, {**found.pairs, (0,): (True, 3)}).shows(TABLE))
        flagged = {(False,) if columns == (0,) else columns: found.pairs[columns] for columns in found.pairs}
        self.assertEqual(flagged, found.pairs)
        self.assertFalse(Keys(found.least, flagged).shows(TABLE))

    def test_equal(self):
        self.check_equality(
            lambda: Told({(0,): 1, (1,): 0}), lambda: Told({(0,): 1}), lambda: Untold(0, 1), lambda: Untold(1, 0),
            lambda: Untold(0, 2), lambda: Untold(2, 1), lambda: Keys([], {}), lambda: Keys([()], {}), lambda: Keys([], {(): (0, 1)}),
        )
        self.assertEqual(Told({(0,): 1, (1,): 0}), Told({(1,): 0, (0,): 1}))

    def test_evidence_is_copied(self):
        known, least_keys, pairs = {(0,): 1}, [(0,)], {(): (0, 1)}
        told, found = Told(known), Keys(least_keys, pairs)
        known.clear()
        least_keys.clear()
        pairs.clear()
        self.assertEqual((told.known, found.least, found.pairs), ({(0,): 1}, [(0,)], {(): (0, 1)}))

    def test_returned_lists_are_new(self):
        for call in (keys, kin, lambda table: least_tellers(table, 2), lambda table: find_keys(table).least):
            first = call(TABLE)
            expected = list(first)
            first.clear()
            self.assertEqual(call(TABLE), expected)
        find_keys(TABLE).pairs.clear()
        judge_told(TABLE, (1,), 2).known.clear()
        self.assertTrue(find_keys(TABLE).shows(TABLE))
        self.assertEqual(judge_told(TABLE, (1,), 2).known, {(0,): 3, (2,): 4})


class TellingErrorsTest(Case):

    def test_wrong_arguments(self):
        table = TABLE
        for call in (judge_told, is_told, Told({}).shows, Untold(0, 1).shows):
            self.check_arguments(
                call, (table, BadTable, NO_TABLES), ((0, 1), BadColumn, wrong_columns(3)),
                (2, BadColumn, wrong_numbers(0, 2)))
        for call in (find_keys, keys, kin, Keys([], {}).shows, Keys([(False,)], {}).shows):
            self.check_arguments(call, (table, BadTable, NO_TABLES))
        self.check_arguments(least_tellers, (table, BadTable, NO_TABLES), (2, BadColumn, wrong_numbers(0, 2)))
        self.check_arguments(
            never_more, (table, BadTable, NO_TABLES), (0, BadColumn, wrong_numbers(0, 2)),
            (2, BadColumn, wrong_numbers(0, 2)))
        self.check_arguments(merged_prices, (table, BadTable, NO_TABLES), ((0, 9, 1), BadPrices, wrong_prices(3)))

    def test_one_column(self):
        table = Table([(0,)])
        self.check_arguments(
            judge_told, (table, BadTable, NO_TABLES), ((0,), BadColumn, wrong_columns(1)),
            (0, BadColumn, wrong_numbers(0, 0)))


if __name__ == "__main__":
    unittest.main()
