"""Columns that tell other columns, keys of tables, and kin columns."""

from runcolumns.common import choices, has_boolean, is_number, without
from runcolumns.tables import check_column, check_columns, check_prices, check_table


class Told:
    """What a column is, for all values that rows have in the columns that tell it."""

    def __init__(self, known):
        self.known = {key: known[key] for key in known}

    def __eq__(self, other):
        return isinstance(other, Told) and self.known == other.known

    def shows(self, table, columns, c):
        """Whether the dict shows that the columns tell the column."""
        found = judge_told(table, columns, c)
        if has_boolean(self.known):
            return False
        return isinstance(found, Told) and found.known == self.known


class Untold:
    """Two rows that are equal in some columns, but not in another one."""

    def __init__(self, one, other):
        self.one = one
        self.other = other

    def __eq__(self, other):
        return isinstance(other, Untold) and self.one == other.one and self.other == other.other

    def shows(self, table, columns, c):
        """Whether the two rows show that the columns do not tell the column."""
        check_table(table)
        check_columns(table, columns)
        check_column(table, c)
        return are_apart(table, columns, (c,), (self.one, self.other))


class Keys:
    """All keys of a table, and two rows for each set of columns that contains none."""

    def __init__(self, least, pairs):
        self.least = list(least)
        self.pairs = {columns: pairs[columns] for columns in pairs}

    def __eq__(self, other):
        return isinstance(other, Keys) and self.least == other.least and self.pairs == other.pairs

    def shows(self, table):
        """Whether these are all keys, and pairs of rows for all columns without a key."""
        check_table(table)
        if has_boolean(self.least) or has_boolean(self.pairs):
            return False
        if sorted(self.least) != sorted(keys(table)) or sorted(list(self.pairs)) != sorted(keyless(table)):
            return False
        every = all_columns(table)
        return all([are_apart(table, columns, every, pair) for columns, pair in self.pairs.items()])


def all_columns(table):
    """The tuple of all columns."""
    return tuple(range(table.width))


def values_in(row, columns):
    """The tuple of the values that a row has in some columns."""
    return tuple([row[c] for c in columns])


def are_apart(table, columns, others, pair):
    """Whether this is a pair of indices of rows, equal in the first columns but not in the others."""
    if not isinstance(pair, tuple) or len(pair) != 2:
        return False
    if not all([is_number(index, 0, len(table) - 1) for index in pair]):
        return False
    one, other = table.rows[pair[0]], table.rows[pair[1]]
    if values_in(one, columns) != values_in(other, columns):
        return False
    return values_in(one, others) != values_in(other, others)


def pairs_apart(table, columns, others):
    """The list of all such pairs, with the lesser index first."""
    many = len(table)
    pairs = [(one, other) for other in range(many) for one in range(other)]
    return [pair for pair in pairs if are_apart(table, columns, others, pair)]


def tells(table, columns, others):
    """Whether rows that are equal in the first columns are equal in the others, too."""
    return not pairs_apart(table, columns, others)


def judge_told(table, columns, c):
    """A Told if the columns tell the column, otherwise an Untold."""
    check_table(table)
    check_columns(table, columns)
    check_column(table, c)
    pairs = pairs_apart(table, columns, (c,))
    if pairs:
        return Untold(pairs[0][0], pairs[0][1])
    return Told({values_in(row, columns): row[c] for row in table.rows})


def is_told(table, columns, c):
    """Whether the columns tell the column."""
    return isinstance(judge_told(table, columns, c), Told)


def least_of(table, columns, others):
    """The choices of the columns that tell the others, but no longer with any column removed."""
    telling = [choice for choice in choices(columns) if tells(table, choice, others)]
    return [choice for choice in telling if not any([without(choice, c) in telling for c in choice])]


def least_tellers(table, c):
    """The list of the least tuples of other columns that tell a column."""
    check_table(table)
    check_column(table, c)
    return least_of(table, without(all_columns(table), c), (c,))


def never_more(table, c, d):
    """Whether the first column never has more runs than the second, whatever rows are chosen and ordered."""
    check_table(table)
    check_column(table, c)
    check_column(table, d)
    # Two rows that differ in c but not in d are by themselves a choice with more runs of c.
    return tells(table, (d,), (c,))


def keys(table):
    """The list of all keys."""
    check_table(table)
    return least_of(table, all_columns(table), all_columns(table))


def keyless(table):
    """The list of the tuples of columns that contain no key."""
    every = all_columns(table)
    return [choice for choice in choices(every) if not tells(table, choice, every)]


def find_keys(table):
    """All keys, with two rows for each tuple of columns that contains none."""
    check_table(table)
    every = all_columns(table)
    return Keys(keys(table), {columns: pairs_apart(table, columns, every)[0] for columns in keyless(table)})


def kin(table):
    """The list of the tuples of columns that tell each other."""
    check_table(table)
    every = all_columns(table)
    families = [tuple([d for d in every if are_kin(table, c, d)]) for c in every]
    return [family for c, family in enumerate(families) if family[0] == c]


def are_kin(table, c, d):
    """Whether each of two columns tells the other."""
    return tells(table, (c,), (d,)) and tells(table, (d,), (c,))


def merged_prices(table, prices):
    """For the first of columns that are kin, the sum of their prices, and 0 for the others."""
    check_table(table)
    check_prices(table, prices)
    merged = {family[0]: sum([prices[c] for c in family]) for family in kin(table)}
    return tuple([merged.get(c, 0) for c in all_columns(table)])
