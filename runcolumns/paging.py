"""Rows cut into pages, with few runs in each or with few runs in all."""

from runcolumns.common import are_ascending, has_boolean, is_number
from runcolumns.errors import BadMost, BadPages
from runcolumns.runs import changes
from runcolumns.tables import check_stretch, check_table

TOP_LIMIT = 40


class Pages:
    """Cuts into as few pages as a limit allows, and marks of which no two are in one page."""

    def __init__(self, cuts, marks):
        self.cuts = tuple(cuts)
        self.marks = tuple(marks)

    def __eq__(self, other):
        return isinstance(other, Pages) and self.cuts == other.cuts and self.marks == other.marks

    def shows(self, table, most):
        """Whether the cuts keep to the limit, and the marks leave no way to do it with fewer pages."""
        check_most(table, most)
        cuts, marks = tuple(self.cuts), tuple(self.marks)
        if not are_cuts(table, cuts) or not are_ascending(marks, 0, len(table) - 1) or len(marks) != len(cuts):
            return False
        if any([page_runs(table, first, past) > most for first, past in pages_of(table, cuts)]):
            return False
        return all([page_runs(table, first, last + 1) > most for first, last in zip(marks, marks[1:])])


class Totals:
    """Cuts into so many pages with the fewest runs in all, and the fewest for first rows and fewer pages."""

    def __init__(self, cuts, sums):
        self.cuts = tuple(cuts)
        self.sums = {key: sums[key] for key in sums}

    def __eq__(self, other):
        return isinstance(other, Totals) and self.cuts == other.cuts and self.sums == other.sums

    def shows(self, table, pages):
        """Whether the dict has all smallest numbers of runs, and the cuts the one for all rows."""
        check_pages(table, pages)
        sums = least_sums(table, pages)
        if has_boolean(list(self.sums.items())) or self.sums != sums:
            return False
        cuts = tuple(self.cuts)
        if not are_cuts(table, cuts) or len(cuts) != pages:
            return False
        together = sum([page_runs(table, first, past) for first, past in pages_of(table, cuts)])
        return together == sums[(pages, len(table))]


def check_most(table, most):
    """Raise BadTable or BadMost if this is no table, or no limit for it."""
    check_table(table)
    if not is_number(most, table.width, TOP_LIMIT):
        raise BadMost("not an integer from the number of columns to 40")


def check_pages(table, pages):
    """Raise BadTable or BadPages if this is no table, or no number of pages for it."""
    check_table(table)
    if not is_number(pages, 1, len(table)):
        raise BadPages("not an integer from 1 to the number of the rows")


def page_runs(table, first, past):
    """The number of the runs of a page."""
    return table.width + sum(changes(table)[first:past - 1])


def are_cuts(table, cuts):
    """Whether these are cuts of the rows of a table into pages."""
    return are_ascending(cuts, 0, len(table) - 1) and cuts[:1] == (0,)


def pages_of(table, cuts):
    """The list of the pages that have been cut, each as its first row and the index after its last row."""
    return list(zip(cuts, cuts[1:] + (len(table),)))


def longest_pages(table, most):
    """The list of the first rows of pages that each go on for as long as the limit allows."""
    cuts = [0]
    for index in range(len(table)):
        if page_runs(table, cuts[-1], index + 1) > most:
            cuts.append(index)
    return cuts


def cut(table, most):
    """A Pages with cuts into as few pages as the limit allows."""
    check_most(table, most)
    cuts = longest_pages(table, most)
    # Each page had to end because the first row of the next one would have been too much for it.
    return Pages(cuts, cuts)


def fewest_pages(table, most):
    """The smallest number of pages that keep to the limit."""
    check_most(table, most)
    return len(longest_pages(table, most))


def least_most(table, pages):
    """The least limit with which so many pages are enough."""
    check_pages(table, pages)
    limits = range(table.width, TOP_LIMIT + 1)
    return min([most for most in limits if len(longest_pages(table, most)) <= pages])


def shorter_cuts(pages, rows):
    """The list of the numbers of first rows that can be cut into one page fewer, ahead of the last page."""
    if pages == 1:
        return [0]
    return list(range(pages - 1, rows))


def least_sums(table, pages):
    """The dict from all pairs of a number of pages and of first rows to the smallest numbers of runs."""
    sums = {(0, 0): 0}
    for many in range(1, pages + 1):
        for rows in range(many, len(table) + 1):
            starts = shorter_cuts(many, rows)
            sums[(many, rows)] = min([sums[(many - 1, first)] + page_runs(table, first, rows) for first in starts])
    return {key: sums[key] for key in sums if key[0] > 0}


def cheapest_cuts(table, pages, sums):
    """The first rows of so many pages with the smallest number of runs."""
    cuts, rows = (), len(table)
    for many in reversed(range(1, pages)):
        starts = shorter_cuts(many + 1, rows)
        least = sums[(many + 1, rows)]
        fitting = [first for first in starts if sums[(many, first)] + page_runs(table, first, rows) == least]
        rows = fitting[0]
        cuts = (rows,) + cuts
    return (0,) + cuts


def cut_totals(table, pages):
    """A Totals with cuts into so many pages that have as few runs as possible."""
    check_pages(table, pages)
    sums = least_sums(table, pages)
    return Totals(cheapest_cuts(table, pages, sums), sums)


def least_total(table, pages):
    """How few runs so many pages can have together."""
    check_pages(table, pages)
    return least_sums(table, pages)[(pages, len(table))]


def runs_between(table, first, past):
    """The number of the runs of the page of the rows from first on, up to ahead of past."""
    check_table(table)
    check_stretch(table, first, past)
    return page_runs(table, first, past)
