"""Pairs of rows of two tables that are sorted by their first columns."""

from runcolumns.errors import BadOrder
from runcolumns.runs import runs_of
from runcolumns.tables import check_column, check_table


def check_sorted(one, other):
    """Raise BadTable or BadOrder if these are no tables, or not both sorted by their first columns."""
    check_table(one)
    check_table(other)
    for table in (one, other):
        firsts = table.column(0)
        if firsts != sorted(firsts):
            raise BadOrder("not sorted by the first column")


def comparisons(one, other):
    """The list of the pairs of a run of one first column and a run of the other that are compared, in order."""
    check_sorted(one, other)
    runs, others = runs_of(one, 0), runs_of(other, 0)
    at, across, found = 0, 0, []
    while at < len(runs) and across < len(others):
        run, beside = runs[at], others[across]
        found.append((run, beside))
        at += int(run[0] <= beside[0])
        across += int(beside[0] <= run[0])
    return found


def join_pairs(one, other):
    """The list of all pairs of indices of rows with equal first values, ascending."""
    check_sorted(one, other)
    firsts, others = one.column(0), other.column(0)
    return [(at, across) for at, value in enumerate(firsts) for across, held in enumerate(others) if held == value]


def join_count(one, other):
    """The number of all pairs."""
    return sum([many for value, many in join_runs(one, other)])


def join_runs(one, other):
    """The list of the runs of the first values of all pairs."""
    compared = comparisons(one, other)
    return [(run[0], run[1] * beside[1]) for run, beside in compared if run[0] == beside[0]]


def join_looks(one, other):
    """How often two runs are compared."""
    return len(comparisons(one, other))


def lonely(one, other):
    """The ascending list of the indices of the rows of the first table that are in no pair."""
    joined = [at for at, across in join_pairs(one, other)]
    return [at for at in range(len(one)) if at not in joined]


def join_groups(one, other, c, d):
    """For each first value of pairs, the number of the pairs, and the sums of a column of either table over them."""
    check_sorted(one, other)
    check_column(one, c)
    check_column(other, d)
    found = {}
    for at, across in join_pairs(one, other):
        row, beside = one.rows[at], other.rows[across]
        many, total, others = found.get(row[0], (0, 0, 0))
        found[row[0]] = (many + 1, total + row[c], others + beside[d])
    return found
