"""[16] Pages."""

import itertools
import random
import unittest

from runcolumns.errors import BadIndex, BadMost, BadPages, BadTable
from runcolumns.paging import (
    Pages, Totals, cut, cut_totals, fewest_pages, least_most, least_total, runs_between,
)
from runcolumns.tables import Table
from tests.cases import Case
from tests.samples import HUGE, NO_TABLES, grouped_runs, some_tables, wrong_numbers

EXAMPLES = """
>>> from runcolumns.paging import Pages, cut_totals, cut, fewest_pages, least_most, least_total, runs_between
>>> from runcolumns.tables import Table
>>> table = Table([(0, 0), (0, 1), (1, 1), (1, 0)])
>>> [runs_between(table, 0, 2), cut(table, 3).cuts, [fewest_pages(table, most) for most in (2, 3, 4, 5)], [least_most(table, pages) for pages in (1, 2, 3, 4)]]
[3, (0, 2), [4, 2, 2, 1], [5, 3, 3, 2]]
>>> [least_total(table, 2), cut_totals(table, 2).sums[(2, 3)], Pages((0, 2), (0, 2)).shows(table, 3), Pages((0, 2), (0, 1)).shows(table, 3)]
[6, 5, True, False]
"""

TABLE = Table([(0, 0), (0, 1), (1, 1), (1, 0)])
TEN = Table([(at % 2, at % 3, at // 4, 0) for at in range(10)])
TABLES = some_tables(many=40, rows=7) + [Table([(5, 5, 5)]), TEN, Table([(0, 6)] * 10)]


def page_runs(rows):
    return sum(len(grouped_runs([row[c] for row in rows])) for c in range(len(rows[0])))


def pages_of(table, cuts):
    return [table.rows[first:past] for first, past in zip(cuts, cuts[1:] + (len(table),))]


def all_cuts(many, pages):
    """All cuts of so many rows into so many pages."""
    return [(0,) + cuts for cuts in itertools.combinations(range(1, many), pages - 1)]


def fewest(table, most):
    """The smallest number of pages and all cuts into that many, by trying all."""
    for pages in range(1, len(table) + 1):
        fitting = [cuts for cuts in all_cuts(len(table), pages)
                   if all(page_runs(page) <= most for page in pages_of(table, cuts))]
        if fitting:
            return pages, fitting
    return None


def total(table, cuts):
    return sum(page_runs(page) for page in pages_of(table, cuts))


def all_sums(table, pages):
    sums = {}
    for many in range(1, pages + 1):
        for rows in range(many, len(table) + 1):
            firsts = Table(table.rows[:rows])
            sums[(many, rows)] = min(total(firsts, cuts) for cuts in all_cuts(rows, many))
    return sums


class PagesTest(Case):

    def test_examples(self):
        self.check_examples(EXAMPLES)

    def test_every_limit(self):
        for table in TABLES:
            last = 0
            for most in range(table.width, 41):
                found = cut(table, most)
                if last != 1:
                    last, fitting = fewest(table, most)
                    self.assertIn(found.cuts, fitting)
                self.assertEqual((fewest_pages(table, most), len(found.cuts)), (last, last))
                self.assertTrue(found.shows(table, most))
                self.assertIsInstance(found.cuts, tuple)
                self.check_marks(table, most, found)

    def check_marks(self, table, most, found):
        self.assertIsInstance(found.marks, tuple)
        self.assertEqual(len(found.marks), len(found.cuts))
        self.assertEqual(found.marks, tuple(sorted(set(found.marks) & set(range(len(table))))))
        for first, last in zip(found.marks, found.marks[1:]):
            self.assertGreater(page_runs(table.rows[first:last + 1]), most)

    def test_every_number_of_pages(self):
        for table in TABLES:
            for pages in range(1, len(table) + 1):
                cuts = all_cuts(len(table), pages)
                self.assertEqual(least_total(table, pages), min(total(table, some) for some in cuts))
                greatest = [max(page_runs(page) for page in pages_of(table, some)) for some in cuts]
                self.assertEqual(least_most(table, pages), min(greatest))

    def test_fewer_pages_can_be_enough(self):
        table = Table([(0, 0)] * 3 + [(6, 6)])
        self.assertEqual([least_most(table, pages) for pages in (1, 2, 3, 4)], [4, 2, 2, 2])
        self.assertEqual([least_total(table, pages) for pages in (1, 2, 3, 4)], [4, 4, 6, 8])

    def test_all_marks_are_judged(self):
        for table in [table for table in TABLES if len(table) <= 5][:25] + [TABLE]:
            for most in range(table.width, table.width + 4):
                pages, fitting = fewest(table, most)
                marks = list(itertools.combinations(range(len(table)), pages))
                for cuts in fitting[:3] + all_cuts(len(table), pages)[-2:]:
                    for some in marks:
                        apart = [page_runs(table.rows[one:other + 1]) > most for one, other in zip(some, some[1:])]
                        right = cuts in fitting and all(apart)
                        self.assertEqual(Pages(cuts, some).shows(table, most), right)
                        self.assertEqual(Pages(list(cuts), list(some)).shows(table, most), right)

    def test_wrong_cuts_and_marks(self):
        self.assertTrue(Pages((0, 2), (1, 3)).shows(TABLE, 3))
        for wrong in [(), (0,), (2,), (0, 0), (1, 2), (2, 0), (0, 4), (0, HUGE), (0, -2), (0, 1, 2), (0, 1, 2, 3)]:
            self.assertFalse(Pages(wrong, (1, 3)).shows(TABLE, 3), wrong)
        for wrong in [(), (0,), (0, 1), (3, 1), (1, 1), (1, 4), (-1, 3), (1, HUGE), (0, 2, 3), (True, 3), (0, 1, 3)]:
            self.assertFalse(Pages((0, 2), wrong).shows(TABLE, 3), wrong)
        self.assertFalse(Pages((False, 2), (1, 3)).shows(TABLE, 3))
        self.assertFalse(Pages((0, 1, 3), (0, 2)).shows(TABLE, 3))
        self.assertFalse(Pages((0, 1, 2), (0, 1, 2)).shows(TABLE, 3))
        self.assertFalse(Pages((0, 2), (1, 3)).shows(TABLE, 4))
        self.assertFalse(Pages((0, 2), (1, 3)).shows(TABLE, 2))
        pair = Table([(0, 0), (0, 1)])
        self.assertTrue(Pages((0, 1), (0, 1)).shows(pair, 2))
        for marks in [(-1, 1), (-2, 1), (1, 2), (-1, 0)]:
            self.assertFalse(Pages((0, 1), marks).shows(pair, 2), marks)
        self.assertTrue(Pages((0,), (3,)).shows(TABLE, 40))
        self.assertFalse(Pages((0,), (4,)).shows(TABLE, 40))
        self.assertFalse(Pages((0,), ()).shows(TABLE, 40))
        self.assertFalse(Pages((), ()).shows(TABLE, 40))

    def test_current_attributes_are_judged(self):
        found = cut(TABLE, 3)
        found.cuts, found.marks = [0, 2], [0, 2]
        self.assertTrue(found.shows(TABLE, 3))
        found.marks = [0, 1]
        self.assertFalse(found.shows(TABLE, 3))
        found = cut(TABLE, 3)
        found.cuts = [0, 3]
        self.assertFalse(found.shows(TABLE, 3))

    def test_forty_runs(self):
        table = Table([(0, 1, 2, 3), (3, 2, 1, 0)] * 5)
        self.assertEqual([least_most(table, pages) for pages in (1, 2, 9, 10)], [40, 20, 8, 4])
        self.assertEqual([fewest_pages(table, most) for most in (40, 39, 20, 19, 4)], [1, 2, 2, 3, 10])
        self.assertEqual((least_total(table, 1), least_total(table, 10), runs_between(table, 0, 10)), (40, 40, 40))

    def test_runs_of_pages(self):
        for table in TABLES:
            for first in range(len(table)):
                for past in range(first + 1, len(table) + 1):
                    self.assertEqual(runs_between(table, first, past), page_runs(table.rows[first:past]))


class TotalsTest(Case):

    def test_sums_against_all_cuts(self):
        for table in TABLES:
            for pages in sorted({1, 2, (len(table) + 1) // 2, len(table)} & set(range(1, len(table) + 1))):
                found, sums = cut_totals(table, pages), all_sums(table, pages)
                self.assertEqual(found.sums, sums)
                self.assertIsInstance(found.cuts, tuple)
                self.assertIn(found.cuts, all_cuts(len(table), pages))
                self.assertEqual(total(table, found.cuts), sums[(pages, len(table))])
                self.assertTrue(found.shows(table, pages))

    def test_all_cuts_are_judged(self):
        for table in [table for table in TABLES if len(table) <= 5]:
            for pages in range(1, len(table) + 1):
                sums = all_sums(table, pages)
                for many in range(1, len(table) + 1):
                    for cuts in all_cuts(len(table), many):
                        right = many == pages and total(table, cuts) == sums[(pages, len(table))]
                        self.assertEqual(Totals(cuts, sums).shows(table, pages), right)
                        self.assertEqual(Totals(list(cuts), sums).shows(table, pages), right)

    def test_the_whole_dict_is_judged(self):
        strangers = [(0, 0), (0, 1), (2, 1), (3, 3), (1, 5), (2, 5), (1, 0), (-1, 1), (1, HUGE), (), (1,), (1, 2, 3)]
        self.check_dict(lambda sums: Totals((0, 2), sums).shows(TABLE, 2), all_sums(TABLE, 2), strangers)
        lone = Table([(3,)])
        self.check_dict(lambda sums: Totals((0,), sums).shows(lone, 1), {(1, 1): 1}, [(0, 0), (1, 2), (2, 2), (1,)])
        self.check_dict(lambda sums: Totals((0,), sums).shows(Table([(3,)] * 3), 1), {(1, at): 1 for at in (1, 2, 3)}, [])
        self.assertFalse(Totals((0,), {(True, 1): 1}).shows(lone, 1))
        self.assertFalse(Totals((0,), {(1, 1): True}).shows(lone, 1))
        self.assertFalse(Totals((False,), {(1, 1): 1}).shows(lone, 1))

    def test_wrong_cuts(self):
        sums = all_sums(TABLE, 2)
        self.assertTrue(Totals((0, 1), sums).shows(TABLE, 2))
        for wrong in [(), (0,), (1, 2), (0, 0), (2, 0), (0, 4), (0, -1), (0, HUGE), (0, 1, 2), (0, True), (False, 1)]:
            self.assertFalse(Totals(wrong, sums).shows(TABLE, 2), wrong)
        self.assertFalse(Totals((0, 1), sums).shows(TABLE, 1))
        self.assertFalse(Totals((0, 1), all_sums(TABLE, 3)).shows(TABLE, 2))
        self.assertFalse(Totals((0, 1), {}).shows(TABLE, 2))
        same = Table([(5, 5)] * 4)
        for cuts in [(0, 4), (0, 5), (0, 0), (1, 2), (0, -1), (2, 1)]:
            self.assertFalse(Totals(cuts, all_sums(same, 2)).shows(same, 2), cuts)
        self.assertTrue(Totals((0, 3), all_sums(same, 2)).shows(same, 2))

    def test_current_attributes_are_judged(self):
        found = cut_totals(TABLE, 2)
        found.cuts = [0, 3]
        self.assertTrue(found.shows(TABLE, 2))
        found.sums[(1, 2)] = 4
        self.assertFalse(found.shows(TABLE, 2))

    def test_ten_rows(self):
        chance = random.Random(5)
        for _ in range(5):
            table = Table([tuple(chance.randint(0, 1) for _ in range(3)) for _ in range(10)])
            for pages in (1, 4, 9, 10):
                self.assertEqual(cut_totals(table, pages).sums, all_sums(table, pages))
                self.assertEqual(least_total(table, pages), all_sums(table, pages)[(pages, 10)])


class PagingErrorsTest(Case):

    def test_wrong_arguments(self):
        for table in (TABLE, TEN, Table([(0,)]), Table([(0, 1, 2, 3)])):
            tables, width, many = (table, BadTable, NO_TABLES), table.width, len(table)
            for most in (width, 40):
                for call in (cut, fewest_pages, Pages((), ()).shows):
                    self.check_arguments(call, tables, (most, BadMost, wrong_numbers(width, 40)))
            for pages in (1, many):
                for call in (least_most, cut_totals, least_total, Totals((), {}).shows):
                    self.check_arguments(call, tables, (pages, BadPages, wrong_numbers(1, many)))
            for first in {0, many - 1}:
                self.check_arguments(
                    runs_between, tables, (first, BadIndex, wrong_numbers(0, many - 1)),
                    (many, BadIndex, wrong_numbers(first + 1, many)))

    def test_copies(self):
        cuts, marks, sums = [0, 2], [0, 3], {(1, 1): 2}
        pages, totals = Pages(cuts, marks), Totals(cuts, sums)
        for held in (cuts, marks, sums):
            held.clear()
        self.assertEqual((pages.cuts, pages.marks, totals.cuts, totals.sums), ((0, 2), (0, 3), (0, 2), {(1, 1): 2}))
        cut_totals(TABLE, 2).sums.clear()
        self.assertTrue(cut_totals(TABLE, 2).shows(TABLE, 2))

    def test_equal(self):
        self.check_equality(
            lambda: Pages([0, 2], (0, 2)), lambda: Pages((0, 2), (0, 3)), lambda: Pages((0, 1), (0, 2)),
            lambda: Totals((0, 2), {}), lambda: Totals((0, 1), {}), lambda: Totals([0, 2], {(1, 1): 2}),
        )
        self.assertEqual(cut(TABLE, 3), cut(TABLE, 3))
        self.assertEqual(cut_totals(TABLE, 3), cut_totals(TABLE, 3))


if __name__ == "__main__":
    unittest.main()
