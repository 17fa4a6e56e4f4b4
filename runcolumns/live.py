"""A live table: deeds that change it, and that can be undone."""

from runcolumns.errors import NothingDone
from runcolumns.placing import best_gaps, check_room, check_taken, row_set, rows_with, rows_without
from runcolumns.runs import all_runs
from runcolumns.tables import Table, check_column, check_index, check_row, check_table, check_value


class Trial:
    """A with-block at whose end a live table is again as it was when the block began."""

    def __init__(self, live):
        self._live = live
        self._table = None
        self._done = None
        self._kept = None

    def __enter__(self):
        live = self._live
        self._table = live._table
        self._done = list(live._done)
        self._kept = live._kept
        live._kept = len(live._done)
        return live

    def __exit__(self, kind, value, trace):
        live = self._live
        live._table = self._table
        live._done = self._done
        live._kept = self._kept


class LiveTable:
    """A table with a journal of the deeds that have changed it.

    _done holds each deed with the table before it; the first _kept of them cannot be undone.
    """

    def __init__(self, table):
        check_table(table)
        self._table = Table(table.rows)
        self._done = []
        self._kept = 0

    @property
    def now(self):
        """The current table."""
        return self._table

    @property
    def journal(self):
        """The list of all deeds so far."""
        return [deed for deed, before in self._done]

    def __len__(self):
        return len(self._done)

    def __eq__(self, other):
        return self is other

    def carry_out(self, deed, rows):
        """Note a deed after which the table has these rows, and return that table."""
        after = Table(rows)
        self._done.append((deed, self._table))
        self._table = after
        return after

    def put(self, index, row):
        """Put in a row."""
        check_index(index, len(self._table))
        check_row(self._table, row)
        check_room(self._table)
        return self.carry_out(("put", index, row), rows_with(self._table.rows, index, row))

    def put_best(self, row, prices):
        """Put in a row at the first of the best indices."""
        index = best_gaps(self._table, row, prices)[0]
        return self.put(index, row)

    def take(self, index):
        """Take out a row."""
        check_taken(self._table, index)
        return self.carry_out(("take", index), rows_without(self._table.rows, index))

    def change(self, index, c, value):
        """Set the value of a row in a column."""
        check_index(index, len(self._table) - 1)
        check_column(self._table, c)
        check_value(value)
        rows = rows_without(self._table.rows, index)
        changed = row_set(self._table.rows[index], c, value)
        return self.carry_out(("change", index, c, value), rows_with(rows, index, changed))

    def move(self, index, late):
        """Take out a row and put it in so that its index becomes late."""
        check_index(index, len(self._table) - 1)
        check_index(late, len(self._table) - 1)
        rows = rows_without(self._table.rows, index)
        return self.carry_out(("move", index, late), rows_with(rows, late, self._table.rows[index]))

    def runs(self):
        """The list of the current runs of all columns."""
        return all_runs(self._table)

    def undo(self):
        """Revert the last deed and return it."""
        if len(self._done) <= self._kept:
            raise NothingDone("there is no deed that can be undone")
        deed, before = self._done.pop()
        self._table = before
        return deed

    def branch(self):
        """An independent live table in the same state, in which all deeds can be undone."""
        twin = LiveTable(self._table)
        twin._done = list(self._done)
        return twin

    def trial(self):
        """A trial, for a with-block."""
        return Trial(self)

    def attempt(self, work):
        """What a function returns for the live table inside a trial."""
        with self.trial() as inner:
            return work(inner)
