"""[26] Joins."""

import itertools
import random
import unittest

from runcolumns.errors import BadColumn, BadOrder, BadTable
from runcolumns.joins import join_count, join_groups, join_looks, join_pairs, join_runs, lonely
from runcolumns.tables import Table
from tests.cases import Case
from tests.samples import NO_TABLES, grouped_runs, some_tables, wrong_numbers

EXAMPLES = """
>>> from runcolumns.joins import join_count, join_groups, join_looks, join_pairs, join_runs, lonely
>>> from runcolumns.tables import Table
>>> one, other = Table([(0, 1), (1, 2), (1, 5), (4, 0)]), Table([(1, 3), (1, 4), (2, 6), (4, 1)])
>>> [join_pairs(one, other), join_count(one, other), join_runs(one, other), join_looks(one, other), lonely(one, other), lonely(other, one)]
[[(1, 0), (1, 1), (2, 0), (2, 1), (3, 3)], 5, [(1, 4), (4, 1)], 4, [0], [2]]
>>> join_groups(one, other, 1, 1)
{1: (4, 14, 14), 4: (1, 0, 1)}
"""

ONE = Table([(0, 1), (1, 2), (1, 5), (4, 0)])
OTHER = Table([(1, 3), (1, 4), (2, 6), (4, 1)])
UNSORTED = Table([(1, 0), (0, 5)])
CALLS = (join_pairs, join_count, join_runs, join_looks, lonely)


def firsts(*values):
    """A table with one column."""
    return Table([(value,) for value in values])


def in_order(table):
    """The table with its rows sorted by the first column only."""
    return Table(sorted(table.rows, key=lambda row: row[0]))


TABLES = [in_order(table) for table in some_tables(many=30)] + [
    firsts(0, 0, 0, 6), firsts(*[6] * 10), firsts(0, 1, 2, 3, 4, 5, 6), firsts(1, 1, 3, 3, 5, 5), firsts(0, 2, 4, 6),
    Table([(2, 0, 6), (2, 6, 0), (3, 1, 1)]),
]
SMALL = [firsts(*values) for many in (1, 2, 3) for values in itertools.combinations_with_replacement(range(4), many)]


def pairs_of(one, other):
    """All pairs, by comparing single rows."""
    indices = itertools.product(range(len(one)), range(len(other)))
    return [(at, across) for at, across in indices if one[at][0] == other[across][0]]


def looks_at(one, other):
    """How often runs are compared, told from the words of [26]."""
    runs, others = grouped_runs(one.column(0)), grouped_runs(other.column(0))
    looks = 0
    while runs and others:
        looks += 1
        value, held = runs[0][0], others[0][0]
        if value <= held:
            runs.pop(0)
        if held <= value:
            others.pop(0)
    return looks


class JoinsTest(Case):

    def test_examples(self):
        self.check_examples(EXAMPLES)

    def test_against_single_rows(self):
        for one, other in list(itertools.product(TABLES, TABLES)) + list(itertools.product(SMALL, SMALL)):
            pairs = pairs_of(one, other)
            self.assertEqual(join_pairs(one, other), pairs)
            self.assertEqual(join_count(one, other), len(pairs))
            self.assertEqual(join_runs(one, other), grouped_runs([one[at][0] for at, across in pairs]))
            self.assertEqual(join_looks(one, other), looks_at(one, other))
            joined = {at for at, across in pairs}
            self.assertEqual(lonely(one, other), [at for at in range(len(one)) if at not in joined])

    def test_groups_against_single_rows(self):
        chance = random.Random(1)
        for one, other in itertools.product(TABLES, TABLES):
            c, d = chance.randrange(one.width), chance.randrange(other.width)
            pairs, found = pairs_of(one, other), {}
            for value in sorted({one[at][0] for at, across in pairs}):
                some = [(one[at][c], other[across][d]) for at, across in pairs if one[at][0] == value]
                found[value] = len(some), sum(left for left, right in some), sum(right for left, right in some)
            self.assertEqual(list(join_groups(one, other, c, d).items()), list(found.items()))

    def test_every_column(self):
        one, other = Table([(2, 0, 6), (2, 6, 0), (3, 1, 1)]), Table([(1, 5), (2, 5), (2, 1), (3, 0)])
        self.assertEqual([[join_groups(one, other, c, d) for d in (0, 1)] for c in (0, 1, 2)], [
            [{2: (4, 8, 8), 3: (1, 3, 3)}, {2: (4, 8, 12), 3: (1, 3, 0)}],
            [{2: (4, 12, 8), 3: (1, 1, 3)}, {2: (4, 12, 12), 3: (1, 1, 0)}],
            [{2: (4, 12, 8), 3: (1, 1, 3)}, {2: (4, 12, 12), 3: (1, 1, 0)}],
        ])

    def test_ends(self):
        self.assertEqual(join_looks(firsts(0, 1, 2), firsts(2)), 3)
        self.assertEqual(join_looks(firsts(2), firsts(0, 1, 2)), 3)
        self.assertEqual(join_looks(firsts(0, 1, 2), firsts(0)), 1)
        self.assertEqual(join_looks(firsts(0, 0), firsts(5, 6)), 1)
        self.assertEqual(join_looks(firsts(0, 2, 4, 6), firsts(1, 3, 5)), 6)
        self.assertEqual(join_looks(firsts(1, 3, 5), firsts(0, 2, 4, 6)), 6)
        self.assertEqual(join_looks(firsts(0, 1, 2, 3, 4, 5, 6), firsts(0, 1, 2, 3, 4, 5, 6)), 7)
        self.assertEqual(join_looks(firsts(3, 3, 3), firsts(3)), 1)

    def test_many_and_none(self):
        ten = firsts(*[6] * 10)
        self.assertEqual((join_count(ten, ten), join_runs(ten, ten), join_looks(ten, ten)), (100, [(6, 100)], 1))
        self.assertEqual(join_groups(ten, ten, 0, 0), {6: (100, 600, 600)})
        self.assertEqual((join_pairs(ten, firsts(0)), join_runs(ten, firsts(0)), lonely(ten, firsts(0))), ([], [], list(range(10))))
        self.assertEqual((join_count(ten, firsts(0)), join_groups(ten, firsts(0), 0, 0)), (0, {}))
        self.assertEqual((lonely(ten, ten), join_count(firsts(0), firsts(0))), ([], 1))

    def test_tables_with_other_numbers_of_columns(self):
        self.assertEqual(join_pairs(firsts(1, 4), OTHER), [(0, 0), (0, 1), (1, 3)])
        self.assertEqual(join_pairs(ONE, ONE), [(0, 0), (1, 1), (1, 2), (2, 1), (2, 2), (3, 3)])

    def test_each_list_and_dict_is_new(self):
        for call in (join_pairs, join_runs, lonely):
            first = call(ONE, OTHER)
            before = list(first)
            first.clear()
            self.assertEqual(call(ONE, OTHER), before)
        join_groups(ONE, OTHER, 1, 1).clear()
        self.assertEqual(join_groups(ONE, OTHER, 1, 1), {1: (4, 14, 14), 4: (1, 0, 1)})


class JoinsErrorsTest(Case):

    def test_wrong_arguments(self):
        for one, other in ((ONE, OTHER), (firsts(0), Table([(0, 1, 2, 3)] * 10)), (OTHER, firsts(6))):
            tables = (one, BadTable, NO_TABLES), (other, BadTable, NO_TABLES)
            for call in CALLS:
                self.check_arguments(call, *tables)
            self.check_arguments(
                join_groups, *tables, (one.width - 1, BadColumn, wrong_numbers(0, one.width - 1)),
                (other.width - 1, BadColumn, wrong_numbers(0, other.width - 1)))

    def test_not_sorted(self):
        nearly = [firsts(0, 1, 2, 1), firsts(6, 0), firsts(0, 0, 6, 5), UNSORTED, Table([(1, 1), (0, 6), (1, 0)])]
        for wrong in nearly:
            for call in CALLS:
                self.refused(BadOrder, call, wrong, ONE)
                self.refused(BadOrder, call, ONE, wrong)
                self.refused(BadOrder, call, wrong, wrong)
                for odd in NO_TABLES:
                    self.refused(BadTable, call, wrong, odd)
                    self.refused(BadTable, call, odd, wrong)
            for c in (0, 2, None, True):
                self.refused(BadOrder, join_groups, wrong, ONE, c, c)
                self.refused(BadOrder, join_groups, ONE, wrong, c, c)
                self.refused(BadTable, join_groups, wrong, None, c, c)
                self.refused(BadTable, join_groups, None, wrong, c, c)

    def test_only_the_first_column_is_sorted(self):
        self.assertEqual(join_pairs(Table([(0, 5), (0, 1), (1, 0)]), Table([(0, 6), (0, 0)])), [(0, 0), (0, 1), (1, 0), (1, 1)])


if __name__ == "__main__":
    unittest.main()
