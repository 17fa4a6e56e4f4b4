"""[5] Steps."""

import itertools
import random
import unittest

from runcolumns.errors import BadIndex, BadRow, BadSizes, BadTable, TooLarge
from runcolumns.stepping import (
    Stepped, Stuck, can_step, count_stepped, even_and_odd, full_index, full_row, step,
)
from runcolumns.tables import Table
from tests.cases import Case
from tests.samples import (
    HUGE, NO_TABLES, few_different, wrong_groups, wrong_numbers,
)

EXAMPLES = """
>>> from runcolumns.stepping import Stepped, Stuck, can_step, count_stepped, even_and_odd, full_index, full_row, step
>>> from runcolumns.tables import Table
>>> table, corners = Table([(1, 0), (0, 0), (1, 0), (0, 2)]), Table([(0, 0), (1, 1), (0, 1)])
>>> [[full_row((2, 3), index) for index in range(6)], full_index((2, 3), (1, 0)), count_stepped(table), count_stepped(corners), even_and_odd(corners)]
[[(0, 0), (0, 1), (0, 2), (1, 2), (1, 1), (1, 0)], 5, 2, 2, (2, 1)]
>>> [Stepped((0, 2, 1, 3)).shows(table), Stepped((0, 1, 2, 3)).shows(table), can_step(Table([(0, 0), (1, 1)])), Stuck([((0,), 0), ((1,), 1)]).shows(Table([(0, 0), (1, 1)])), step(corners).shows(corners)]
[True, False, False, True, True]
"""

MANY_ROWS = Table([(at, 0) for at in range(4)] + [(at, 1) for at in range(4)])
SEVEN_ROWS = Table([(at,) for at in range(7)] + [(0,), (3,), (6,)])
TABLES = few_different(7, many=60) + few_different(7, many=60, seed=2, width=3, top=1) + [SEVEN_ROWS]
TABLES += [
    Table([(0, 0, 0), (0, 0, 1), (0, 1, 0), (1, 0, 0)]), Table([(0, 0), (0, 1), (1, 0), (1, 1), (2, 2)]),
    Table([(at,) * 4 for at in range(7)]), Table([(0, 1), (0, 1), (2, 1), (0, 1)]),
]


def listed_full(sizes):
    """All full rows in order, as [5] tells it."""
    if not sizes:
        return [()]
    inner = listed_full(sizes[1:])
    rows = []
    for value in range(sizes[0]):
        rows += [(value,) + row for row in (inner[::-1] if value % 2 else inner)]
    return rows


def differ_once(one, other):
    return sum(left != right for left, right in zip(one, other)) == 1


def in_steps(rows):
    return all(differ_once(one, other) for one, other in zip(rows, rows[1:]))


def count_by_trying(table):
    return sum(in_steps(rows) for rows in itertools.permutations(sorted(set(table.rows))))


def is_stepped_order(table, order):
    """Whether an order is stepped, told from the words of [5]."""
    rows = [table.rows[at] for at in order]
    blocks = [row for row, _ in itertools.groupby(rows)]
    return len(blocks) == len(set(blocks)) and in_steps(blocks)


def closed_beginnings(table):
    """The beginnings that are needed, by widening in all ways."""
    rows = sorted(set(table.rows))
    found = [((at,), at) for at in range(len(rows))]
    for indices, last in found:
        for at in range(len(rows)):
            longer = (tuple(sorted(set(indices) | {at})), at)
            if at not in indices and differ_once(rows[last], rows[at]) and longer not in found:
                found.append(longer)
    return found


class FullRowsTest(Case):

    def test_all_small_sizes(self):
        for width in range(1, 5):
            for sizes in itertools.product((1, 2, 3), repeat=width):
                self.check_full(sizes)

    def test_large_sizes(self):
        for sizes in [(7,), (7, 7), (1, 7, 1, 7), (6, 5, 7), (7, 1, 1, 1), (2, 7, 6), (7, 7, 7, 7)]:
            self.check_full(sizes)

    def check_full(self, sizes):
        rows = listed_full(sizes)
        self.assertEqual([full_row(sizes, at) for at in range(len(rows))], rows)
        self.assertEqual([full_index(sizes, row) for row in rows], list(range(len(rows))))
        for one, other in zip(rows, rows[1:]):
            self.assertEqual(sum(abs(left - right) for left, right in zip(one, other)), 1)
        self.refused(BadIndex, full_row, sizes, len(rows))

    def test_wrong_arguments(self):
        no_sizes = wrong_groups(1, 7, [1, 2, 3, 4]) + [(0, 2), (2, 0), (8,), (1,) * 5, [2, 3]]
        for sizes in ((1,), (2, 3), (7, 7, 7, 7), (1, 2, 1)):
            many = len(listed_full(sizes))
            self.check_arguments(
                full_row, (sizes, BadSizes, no_sizes), (many - 1, BadIndex, wrong_numbers(0, many - 1)))
            no_rows = wrong_groups(0, 6, [len(sizes)]) + [sizes, (0,) * (len(sizes) - 1) + (sizes[-1],)]
            no_rows += [(size,) + (0,) * (len(sizes) - 1) for size in (sizes[0], 7, HUGE)]
            self.check_arguments(full_index, (sizes, BadSizes, no_sizes), ((0,) * len(sizes), BadRow, no_rows))


class StepTest(Case):

    def test_examples(self):
        self.check_examples(EXAMPLES)

    def test_step_against_all_orders(self):
        kinds = set()
        for table in TABLES:
            many, found = count_by_trying(table), step(table)
            self.assertEqual(count_stepped(table), many)
            self.assertEqual(can_step(table), many > 0)
            self.assertIs(type(found), Stepped if many else Stuck)
            self.assertTrue(found.shows(table))
            if many:
                self.assertTrue(is_stepped_order(table, found.order))
                self.assertEqual(sorted(found.order), list(range(len(table))))
            kinds.add((type(found), len(set(table.rows))))
        self.assertLessEqual({(Stepped, 1), (Stepped, 2), (Stuck, 2), (Stepped, 7), (Stuck, 7)}, kinds)

    def test_even_and_odd(self):
        for table in TABLES:
            sums = [sum(row) % 2 for row in set(table.rows)]
            self.assertEqual(even_and_odd(table), (sums.count(0), sums.count(1)))

    def test_one_row(self):
        table = Table([(6, 0)])
        self.assertEqual((step(table), count_stepped(table), even_and_odd(table)), (Stepped((0,)), 1, (1, 0)))

    def test_stepped_shows_all_orders(self):
        for table in [table for table in TABLES if len(table) <= 5]:
            for order in itertools.permutations(range(len(table))):
                self.assertEqual(Stepped(order).shows(table), is_stepped_order(table, order))
                self.assertEqual(Stepped(list(order)).shows(table), is_stepped_order(table, order))

    def test_stepped_shows_wrong_orders(self):
        table = Table([(0, 0), (0, 1), (0, 1)])
        for order in [(), (0,), (0, 1), (0, 1, 1), (0, 1, 2, 2), (0, 1, 3), (-3, 1, 2), (0, 1, -1), (HUGE, 0, 1), (1, 2, 3)]:
            self.assertFalse(Stepped(order).shows(table), order)
        self.assertTrue(Stepped((0, 1, 2)).shows(table))
        self.assertTrue(Stepped((2, 1, 0)).shows(table))
        self.assertFalse(Stepped((1, 0, 2)).shows(table))

    def test_stepped_shows_its_current_order(self):
        table = Table([(0, 0), (0, 1), (1, 1)])
        found = Stepped((0, 1, 2))
        found.order = (0, 2, 1)
        self.assertFalse(found.shows(table))
        found.order = (2, 1, 0)
        self.assertTrue(found.shows(table))

    def test_stuck_shows_closed_beginnings_only(self):
        chance = random.Random(5)
        for table in [table for table in TABLES if not can_step(table)]:
            needed = closed_beginnings(table)
            self.assertTrue(Stuck(needed).shows(table))
            chance.shuffle(needed)
            self.assertTrue(Stuck(needed + needed[:2]).shows(table))
            for at in chance.sample(range(len(needed)), min(5, len(needed))):
                self.assertFalse(Stuck(needed[:at] + needed[at + 1:]).shows(table))
            found = step(table)
            found.beginnings.pop()
            self.assertFalse(found.shows(table))

    def test_stuck_shows_nothing_where_there_is_an_order(self):
        for table in [table for table in TABLES if can_step(table)]:
            needed = closed_beginnings(table)
            self.assertFalse(Stuck(needed).shows(table))
            self.assertFalse(Stuck([]).shows(table))
            every = len(set(table.rows))
            self.assertFalse(Stuck([begun for begun in needed if len(begun[0]) < every]).shows(table))

    def test_stuck_shows_no_wrong_beginnings(self):
        table = Table([(0, 0), (1, 1), (1, 1)])
        right = [((0,), 0), ((1,), 1)]
        self.assertTrue(Stuck(right).shows(table))
        wrong = [((), 0), ((0,), 1), ((2,), 2), ((-1,), -1), ((HUGE,), HUGE), ((1, 0), 0), ((0, 0), 0), ((0, 2), 0)]
        for begun in wrong + [((0, 1), 0), ((0, 1), 1), ((0, 1, 2), 2), ((False,), 0), ((0,), False), ((True,), 1)]:
            self.assertFalse(Stuck(right + [begun]).shows(table), begun)

    def test_unneeded_beginnings_must_be_closed_too(self):
        table = Table([(0, 0), (0, 1), (5, 5), (6, 6)])
        needed = closed_beginnings(table)
        # Rows 0 and 2 do not follow each other, but from row 0 the beginning goes on to row 1.
        self.assertFalse(Stuck(needed + [((0, 2), 0)]).shows(table))
        self.assertTrue(Stuck(needed + [((0, 2), 0), ((0, 1, 2), 1)]).shows(table))
        self.assertTrue(Stuck(needed + [((0, 2), 2)]).shows(table))

    def test_wrong_arguments(self):
        table = Table([(0, 0), (1, 1)])
        calls = [step, can_step, count_stepped, even_and_odd, Stepped((0, 1)).shows, Stuck([((0,), 0), ((1,), 1)]).shows]
        for call in calls:
            self.check_arguments(call, (table, BadTable, NO_TABLES))
            self.refused(TooLarge, call, MANY_ROWS)
            call(SEVEN_ROWS)

    def test_equal(self):
        self.check_equality(
            lambda: Stepped([0, 1]), lambda: Stepped((1, 0)), lambda: Stuck([]), lambda: Stuck([((0,), 0)]),
            lambda: Stuck([((0,), 0), ((0,), 0)]), lambda: Table([(0, 1)]),
        )
        self.assertFalse(Stepped((0, 1)) == (0, 1))

    def test_evidence_is_copied(self):
        order, beginnings = [0, 1], [((0,), 0)]
        stepped, stuck = Stepped(order), Stuck(beginnings)
        order.append(2)
        beginnings.append(None)
        self.assertEqual((stepped.order, stuck.beginnings), ((0, 1), [((0,), 0)]))
        table = Table([(0, 0), (1, 1)])
        step(table).beginnings.clear()
        self.assertEqual(len(step(table).beginnings), 2)
        self.assertIsNot(step(table), step(table))


if __name__ == "__main__":
    unittest.main()
