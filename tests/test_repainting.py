"""[30] Repainting."""

import itertools
import random
import unittest

from runcolumns.errors import BadColumn, BadSizes, BadTable
from runcolumns.repainting import Repainted, fewest_repaints, repaint, repaints_by_runs
from runcolumns.tables import Table
from tests.cases import Case
from tests.samples import HUGE, NO_TABLES, runs_in, some_tables, wrong_numbers

EXAMPLES = """
>>> from runcolumns.repainting import Repainted, fewest_repaints, repaint, repaints_by_runs
>>> from runcolumns.tables import Table
>>> table = Table([(0,), (0,), (1,), (0,), (2,), (2,)])
>>> [repaints_by_runs(table, 0), fewest_repaints(table, 0, 2), repaint(table, 0, 2).cells, repaint(table, 0, 2).shows(table, 0, 2)]
[[3, 1, 1, 0, 0, 0], 1, (0, 0, 0, 0, 2, 2), True]
>>> [len(repaint(table, 0, 2).floors), repaint(table, 0, 2).floors[(4, 1, 0)], repaint(table, 0, 2).floors[(4, 0, 0)], Repainted((0, 0, 0, 0, 2, 2), {}).shows(table, 0, 2)]
[37, 0, 2, False]
"""


def column(*values):
    return Table([(value,) for value in values])


TABLE = column(0, 0, 1, 0, 2, 2)
SMALL = [values for many in range(1, 6) for values in itertools.product(range(3), repeat=many)]
FEW = [values for many in range(1, 4) for values in itertools.product((0, 1, 6), repeat=many)] + [(0, 5, 0, 5)]
TABLES = some_tables(many=20) + [
    column(0, 1, 0, 1, 0, 1, 0, 1, 0, 1), column(0, 1, 2, 3, 4, 5, 6, 0, 1, 2), column(*[4] * 10),
    column(6, 0, 6, 5, 5, 6, 0, 0, 6, 5),
]


def changed(values, cells):
    return sum(value != cell for value, cell in zip(values, cells))


def best_cells(values, runs, colors=None):
    """All columns with at most so many runs that differ in the fewest rows, and the number of these rows."""
    colors = sorted(set(values)) if colors is None else colors
    fitting = [cells for cells in itertools.product(colors, repeat=len(values)) if runs_in(cells) <= runs]
    least = min(changed(values, cells) for cells in fitting)
    return least, [cells for cells in fitting if changed(values, cells) == least]


def fewest_by_prefix(values):
    """For 1 run, 2 runs and so on, the fewest rows, by where the last run begins and what value is frequent in it."""
    many = len(values)
    least = {(0, runs): 0 for runs in range(many + 1)}
    for past in range(1, many + 1):
        for runs in range(1, many + 1):
            least[past, runs] = min(
                least.get((first, runs - 1), HUGE) + min(changed(values[first:past], [v] * 10) for v in set(values))
                for first in range(past))
    return [least[many, runs] for runs in range(1, many + 1)]


def all_floors(values, runs):
    """The whole dict of a Repainted, by trying all ways to go on from each state."""
    many, colors = len(values), sorted(set(values))
    floors = {(0, runs, None): best_cells(values, runs)[0]}
    for decided in range(1, many + 1):
        for more in range(runs):
            for last in colors:
                ways = itertools.product(colors, repeat=many - decided)
                floors[decided, more, last] = min(
                    changed(values[decided:], way) for way in ways if runs_in((last,) + way) <= more + 1)
    return floors


class RepaintingTest(Case):

    def test_examples(self):
        self.check_examples(EXAMPLES)

    def test_against_all_columns(self):
        for values in SMALL:
            told = []
            for runs in range(1, len(values) + 1):
                least, cells = best_cells(values, runs)
                told.append(least)
                self.assertEqual(fewest_repaints(column(*values), 0, runs), least)
                self.assertIn(repaint(column(*values), 0, runs).cells, cells)
            self.assertEqual(repaints_by_runs(column(*values), 0), told)

    def test_against_all_columns_of_all_values(self):
        for values in FEW:
            for runs in range(1, len(values) + 1):
                least, cells = best_cells(values, runs, range(7))
                found = repaint(column(*values), 0, runs)
                self.assertEqual(fewest_repaints(column(*values), 0, runs), least)
                self.assertIn(found.cells, cells)
                for some in itertools.product(range(7), repeat=len(values)):
                    self.assertEqual(Repainted(some, found.floors).shows(column(*values), 0, runs), some in cells)

    def test_larger_columns(self):
        for table in TABLES:
            for c in range(table.width):
                values = tuple(table.column(c))
                least = fewest_by_prefix(values)
                self.assertEqual(repaints_by_runs(table, c), least)
                for runs in range(1, len(values) + 1):
                    found = repaint(table, c, runs)
                    self.assertEqual(fewest_repaints(table, c, runs), least[runs - 1])
                    self.assertLessEqual(runs_in(found.cells), runs)
                    self.assertEqual((len(found.cells), changed(values, found.cells)), (len(values), least[runs - 1]))
                    self.assertTrue(found.shows(table, c, runs))

    def test_floors_against_all_ways(self):
        for values in SMALL[::3]:
            for runs in range(1, len(values) + 1):
                found = repaint(column(*values), 0, runs)
                self.assertEqual(found.floors, all_floors(values, runs))
                self.assertEqual(len(found.floors), 1 + len(values) * runs * len(set(values)))
                self.assertIsInstance(found.cells, tuple)
                self.assertTrue(found.shows(column(*values), 0, runs))

    def test_states_of_ten_rows(self):
        table = column(0, 1, 2, 3, 4, 5, 6, 0, 1, 2)
        for runs in (1, 5, 10):
            found = repaint(table, 0, runs)
            states = {(i, j, v) for i in range(1, 11) for j in range(runs) for v in range(7)}
            self.assertEqual(set(found.floors), states | {(0, runs, None)})
            self.assertTrue(found.shows(table, 0, runs))
        self.assertEqual(repaints_by_runs(table, 0), [8, 7, 6, 6, 5, 4, 3, 2, 1, 0])

    def test_one_row(self):
        found = repaint(column(4), 0, 1)
        self.assertEqual((found.cells, found.floors), ((4,), {(0, 1, None): 0, (1, 0, 4): 0}))
        self.assertEqual((repaints_by_runs(column(4), 0), fewest_repaints(column(4), 0, 1)), ([0], 0))

    def test_the_column_counts(self):
        table = Table([(0, 6), (0, 5), (0, 6), (0, 6)])
        self.assertEqual([repaints_by_runs(table, c) for c in (0, 1)], [[0, 0, 0, 0], [1, 1, 0, 0]])
        self.assertEqual((repaint(table, 1, 1).cells, repaint(table, 0, 1).cells), ((6, 6, 6, 6), (0, 0, 0, 0)))


class RepaintedTest(Case):

    def test_all_columns_are_judged(self):
        for values in [values for values in SMALL if len(values) <= 4][::2]:
            for runs in range(1, len(values) + 1):
                floors, right = all_floors(values, runs), best_cells(values, runs)[1]
                for cells in itertools.product(range(3), repeat=len(values)):
                    self.assertEqual(Repainted(cells, floors).shows(column(*values), 0, runs), cells in right)
                    self.assertEqual(Repainted(list(cells), floors).shows(column(*values), 0, runs), cells in right)

    def test_the_whole_dict_is_judged(self):
        cells, floors = (0, 0, 0, 0, 2, 2), all_floors((0, 0, 1, 0, 2, 2), 2)
        strangers = [(0, 2, 0), (0, 0, None), (0, 1, None), (1, 2, 0), (1, -1, 0), (1, 0, 3), (7, 0, 0), (6, 0, None), ()]
        strangers += [(0, 1, 0), (1, 1, None), (HUGE, 0, 0), (1, 0), (1, 0, 0, 0), 0, None, ((1, 0), 0)]
        self.check_dict(lambda held: Repainted(cells, held).shows(TABLE, 0, 2), floors, strangers)
        self.check_dict(lambda held: Repainted((4,), held).shows(column(4), 0, 1), {(0, 1, None): 0, (1, 0, 4): 0}, [])
        found = repaint(TABLES[-1], 0, 4)
        names = list(found.floors)
        random.Random(3).shuffle(names)
        shuffled = {name: found.floors[name] for name in names}
        self.assertTrue(Repainted(found.cells, shuffled).shows(TABLES[-1], 0, 4))

    def test_only_right_cells(self):
        floors = all_floors((0, 0, 1, 0, 2, 2), 2)
        self.assertTrue(Repainted((0, 0, 0, 0, 2, 2), floors).shows(TABLE, 0, 2))
        wrong = [(), (0,), (0, 0, 0, 0, 2), (0, 0, 0, 0, 2, 2, 2), (0, 0, 1, 0, 2, 2), (0, 0, 0, 0, 0, 2), (0, 0, 0, 0, 2, 7)]
        wrong += [(0, 0, 0, 0, 2, -1), (0, 0, 0, 0, 2, HUGE), (0, 0, 5, 0, 2, 2), (0, 0, 0, 0, 2, ()), (0, 0, 0, 0, 2, None)]
        wrong += [(False, 0, 0, 0, 2, 2), ("0", 0, 0, 0, 2, 2), (0, 0, 0, 0, 2, 5)]
        for cells in wrong:
            self.assertFalse(Repainted(cells, floors).shows(TABLE, 0, 2), cells)
        self.assertFalse(Repainted((0, 0, 0, 0, 2, 2), floors).shows(TABLE, 0, 1))
        self.assertFalse(Repainted((0, 0, 0, 0, 2, 2), floors).shows(TABLE, 0, 3))
        pair = column(0, 1)
        for cells, right in [((0, 0), True), ((1, 1), True), ((0, 1), False), ((7, 7), False), ((5, 5), False)]:
            self.assertEqual(Repainted(cells, all_floors((0, 1), 1)).shows(pair, 0, 1), right)

    def test_booleans_are_not_integers(self):
        floors = all_floors((0, 1), 1)
        for old, new in [((1, 0, 0), (True, 0, 0)), ((1, 0, 0), (1, False, 0)), ((2, 0, 1), (2, 0, True))]:
            held = {new if state == old else state: floors[state] for state in floors}
            self.assertEqual(held, floors)
            self.assertFalse(Repainted((0, 0), held).shows(column(0, 1), 0, 1))
        self.assertFalse(Repainted((False, False), floors).shows(column(0, 1), 0, 1))

    def test_current_attributes_are_judged(self):
        found = repaint(TABLE, 0, 2)
        found.cells = [0, 0, 0, 0, 2, 2]
        self.assertTrue(found.shows(TABLE, 0, 2))
        found.cells[0] = 1
        self.assertFalse(found.shows(TABLE, 0, 2))
        found = repaint(TABLE, 0, 2)
        found.floors[(4, 0, 0)] = 1
        self.assertFalse(found.shows(TABLE, 0, 2))

    def test_copies(self):
        cells, floors = [4], {(0, 1, None): 0}
        found = Repainted(cells, floors)
        cells.clear()
        floors.clear()
        self.assertEqual((found.cells, found.floors), ((4,), {(0, 1, None): 0}))
        repaint(TABLE, 0, 2).floors.clear()
        repaints_by_runs(TABLE, 0).clear()
        self.assertTrue(repaint(TABLE, 0, 2).shows(TABLE, 0, 2))
        self.assertEqual(repaints_by_runs(TABLE, 0), [3, 1, 1, 0, 0, 0])

    def test_equal(self):
        self.check_equality(
            lambda: Repainted([4], {}), lambda: Repainted((), {}), lambda: Repainted((4,), {(0, 1, None): 0}))
        self.assertEqual(repaint(TABLE, 0, 2), repaint(TABLE, 0, 2))


class RepaintingErrorsTest(Case):

    def test_wrong_arguments(self):
        for table in (TABLE, TABLES[-2], Table([(0, 1, 2, 3)] * 10), column(5), Table([(0, 1)] * 2)):
            arguments = (table, BadTable, NO_TABLES), (table.width - 1, BadColumn, wrong_numbers(0, table.width - 1))
            self.check_arguments(repaints_by_runs, *arguments)
            for runs in {1, len(table)}:
                for call in (repaint, fewest_repaints, Repainted((), {}).shows):
                    self.check_arguments(call, *arguments, (runs, BadSizes, wrong_numbers(1, len(table))))


if __name__ == "__main__":
    unittest.main()
