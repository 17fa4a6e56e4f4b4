"""Asks for rows, answered by stretches of consecutive rows."""

from runcolumns.common import TOP_VALUE, are_ascending, has_boolean, is_number, stretches_in
from runcolumns.errors import BadAsk
from runcolumns.tables import check_column, check_columns, check_table

MOST_PARTS = 9
PART_LENGTHS = {"is": 3, "same": 3, "not": 2, "and": 3, "or": 3}


class Answer:
    """An ask and all asks inside it, each with its stretches."""

    def __init__(self, parts):
        self.parts = [(part, list(stretches)) for part, stretches in parts]

    def __eq__(self, other):
        return isinstance(other, Answer) and self.parts == other.parts

    def shows(self, table, ask):
        """Whether the parts lead up to the ask, all with the right stretches."""
        check_table(table)
        check_ask(table, ask)
        if not self.parts or self.parts[-1][0] != ask:
            return False
        return all([self.is_right(table, at) for at in range(len(self.parts))])

    def is_right(self, table, at):
        """Whether a part is an ask with its stretches, behind the asks of which it is made."""
        part, stretches = self.parts[at]
        if not is_ask(table, part) or has_boolean(stretches):
            return False
        earlier = [before for before, held in self.parts[:at]]
        return all([inner in earlier for inner in inner_asks(part)]) and stretches == stretches_of(table, part)


def is_part(table, part):
    """Whether this has the form of an ask, without a look at the asks inside it."""
    if not isinstance(part, tuple) or not part or not isinstance(part[0], str):
        return False
    word = part[0]
    if PART_LENGTHS.get(word) != len(part):
        return False
    highest = table.width - 1
    if word == "is":
        return is_number(part[1], 0, highest) and are_ascending(part[2], 0, TOP_VALUE)
    if word == "same":
        return is_number(part[1], 0, highest) and is_number(part[2], 0, highest)
    return True


def inner_asks(part):
    """The asks of which an ask is made directly."""
    if part[0] in ("is", "same"):
        return ()
    return part[1:]


def is_ask(table, ask):
    """Whether this is an ask for the columns of the table."""
    waiting = [ask]
    parts = 0
    # What is nested deeply must be turned down before it is followed to its end.
    while waiting:
        part = waiting.pop()
        parts += 1
        if parts > MOST_PARTS or not is_part(table, part):
            return False
        waiting.extend(list(inner_asks(part)))
    return True


def check_ask(table, ask):
    """Raise BadAsk if this is no ask for the columns of the table."""
    if not is_ask(table, ask):
        raise BadAsk("not an ask for the columns of the table")


def selects(row, ask):
    """Whether an ask selects a row."""
    word = ask[0]
    if word == "is":
        return row[ask[1]] in ask[2]
    if word == "same":
        return row[ask[1]] == row[ask[2]]
    if word == "not":
        return not selects(row, ask[1])
    if word == "and":
        return selects(row, ask[1]) and selects(row, ask[2])
    return selects(row, ask[1]) or selects(row, ask[2])


def selected_rows(table, ask):
    """The list of the rows that an ask selects."""
    return [row for row in table.rows if selects(row, ask)]


def stretches_of(table, ask):
    """The list of the stretches of an ask that has been checked."""
    return stretches_in([index for index, row in enumerate(table.rows) if selects(row, ask)])


def ask_stretches(table, ask):
    """The list of the stretches of an ask."""
    check_table(table)
    check_ask(table, ask)
    return stretches_of(table, ask)


def how_many(table, ask):
    """The number of the rows that an ask selects."""
    check_table(table)
    check_ask(table, ask)
    return len(selected_rows(table, ask))


def looks(table, ask):
    """The number of runs and of pieces that are looked at for an ask."""
    check_table(table)
    check_ask(table, ask)
    if ask[0] in ("is", "same"):
        return len(piece_starts(table, look_columns(ask)))
    return sum([looks(table, inner) for inner in inner_asks(ask)])


def look_columns(ask):
    """The columns that an ask without asks inside it looks at."""
    if ask[0] == "is":
        return (ask[1],)
    return (ask[1], ask[2])


def asks_within(ask):
    """The list of all asks inside an ask, each behind those of which it is made, and of the ask itself."""
    found = []
    for inner in inner_asks(ask):
        found = found + asks_within(inner)
    return found + [ask]


def answer(table, ask):
    """An Answer to an ask."""
    check_table(table)
    check_ask(table, ask)
    return Answer([(part, stretches_of(table, part)) for part in asks_within(ask)])


def added(table, ask, c):
    """The sum of the values of a column over the selected rows."""
    check_table(table)
    check_ask(table, ask)
    check_column(table, c)
    return sum([row[c] for row in selected_rows(table, ask)])


def piece_starts(table, columns):
    """The list of the indices of the rows that differ in one of the columns from the row before."""
    rows = [tuple([row[c] for c in columns]) for row in table.rows]
    return [index for index in range(len(rows)) if index == 0 or rows[index - 1] != rows[index]]


def cuts(table, columns):
    """The list of the indices of the first rows of all pieces of some columns."""
    check_table(table)
    check_columns(table, columns)
    return piece_starts(table, columns)


def groups(table, c, d):
    """For each value of the first column, the number of its rows, and sum, least and greatest of the second."""
    check_table(table)
    check_column(table, c)
    check_column(table, d)
    found = {}
    for value in sorted(set(table.column(c))):
        others = [row[d] for row in table.rows if row[c] == value]
        found[value] = (len(others), sum(others), min(others), max(others))
    return found
