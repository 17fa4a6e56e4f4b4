"""Texts of tables, row by row or column by column in runs."""

from runcolumns.common import MOST_WIDTH
from runcolumns.errors import BadText
from runcolumns.runs import MOST_COLUMNS, all_runs, are_runs, count_rows, table_of
from runcolumns.tables import MOST_ROWS, Table, check_table

WRITTEN_VALUES = ("0", "1", "2", "3", "4", "5", "6")
WRITTEN_COUNTS = ("1", "2", "3", "4", "5", "6", "7", "8", "9", "10")


def text_of_lines(lines):
    """The text that has these lines."""
    return "".join([line + "\n" for line in lines])


def table_text(table):
    """The text of the rows of a table."""
    check_table(table)
    return text_of_lines([" ".join([str(value) for value in row]) for row in table.rows])


def runs_text(table):
    """The text of the columns of a table in runs."""
    columns = all_runs(table)
    return text_of_lines([" ".join([f"{value}x{many}" for value, many in runs]) for runs in columns])


def lines_of(text):
    """The list of the lines of a text, each of which ends with a line feed."""
    if not isinstance(text, str):
        raise BadText(0)
    return text.split("\n")[:-1]


def check_end(text, lines):
    """Raise BadText if there are no lines, or if signs follow the last line feed."""
    if text[-1:] != "\n":
        raise BadText(len(lines))


def row_in(line):
    """The row that a line has, or the empty tuple if it has not the form of one."""
    words = line.split(" ")
    if len(words) > MOST_WIDTH or not all([word in WRITTEN_VALUES for word in words]):
        return ()
    return tuple([int(word) for word in words])


def read_table(text):
    """The table whose rows have this text."""
    lines = lines_of(text)
    rows = []
    for index, line in enumerate(lines):
        row = row_in(line)
        if not row or len(rows) == MOST_ROWS or len(row) != len((rows + [row])[0]):
            raise BadText(index)
        rows.append(row)
    check_end(text, lines)
    return Table(rows)


def runs_in(line):
    """The runs that a line has, or the empty list if it has not the form of runs of a column."""
    runs = []
    for word in line.split(" "):
        value, _, many = word.partition("x")
        if value not in WRITTEN_VALUES or many not in WRITTEN_COUNTS:
            return []
        runs.append((int(value), int(many)))
    if not are_runs(runs):
        return []
    return runs


def read_runs(text):
    """The table whose columns in runs have this text."""
    lines = lines_of(text)
    columns = []
    for index, line in enumerate(lines):
        runs = runs_in(line)
        if not runs or len(columns) == MOST_COLUMNS or count_rows(runs) != count_rows((columns + [runs])[0]):
            raise BadText(index)
        columns.append(runs)
    check_end(text, lines)
    return table_of(columns)
