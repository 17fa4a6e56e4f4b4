"""Tables, right arguments and wrong ones that several tests use."""

import itertools
import math
import random

from runcolumns.live import LiveTable
from runcolumns.stepping import Stepped
from runcolumns.tables import Table


class Alike:
    """Equal to everything, as no object of the package may be."""

    def __eq__(self, other):
        return True

    def __hash__(self):
        return 0


class Rough:
    """Fails as soon as it is compared, hashed, measured, tested or iterated over."""

    def refuse(self, *rest):
        raise RuntimeError("this object was used")

    __eq__ = __ne__ = __lt__ = __le__ = __gt__ = __ge__ = refuse
    __hash__ = __len__ = __bool__ = __iter__ = __index__ = __getitem__ = __contains__ = refuse


HUGE = 10 ** 60

ODD_OBJECTS = [
    None, True, False, "", "0", "01", b"", b"0", [], [0], [0, 1], [(0, 0)], {}, {0: 0}, {(0, 0): 0}, set(), {0},
    object(), Alike(), Rough(), int, len, range(2), slice(0, 1), iter([0]),
    Table([(0, 0)]), Stepped((0,)), LiveTable(Table([(0,)])), ValueError("0"),
]
NO_NUMBERS = ODD_OBJECTS + [(), (0,), (0, 1), HUGE, -HUGE, -1]
NO_TUPLES = ODD_OBJECTS + [0, 1, -1, HUGE, -HUGE]
NO_TABLES = [odd for odd in ODD_OBJECTS if not isinstance(odd, Table)] + [0, 1, (), (0, 0), ((0, 0),), [(0, 0), (0, 1)]]
ODD_ITEMS = [None, True, False, "", "0", [], [0], {}, set(), object(), Alike(), Rough(), -1, HUGE, -HUGE]


NO_LISTINGS = [odd for odd in ODD_OBJECTS if not isinstance(odd, (list, tuple))] + [0, 1, -1, HUGE, -HUGE]


def wrong_numbers(low, high):
    """What is not an integer from low to high."""
    return NO_NUMBERS + [low - 1, high + 1] if low <= 0 else NO_NUMBERS + [low - 1, high + 1, 0]


def wrong_groups(low, high, lengths):
    """What is not a tuple of integers from low to high, with one of the lengths."""
    wrong = list(NO_TUPLES)
    for many in lengths:
        right = (low,) * many
        for at in range(many):
            for item in ODD_ITEMS + [low - 1, high + 1, (), (low,)]:
                wrong.append(right[:at] + (item,) + right[at + 1:])
    return wrong + [(low,) * many for many in range(7) if many not in lengths]


def wrong_rows(width):
    return wrong_groups(0, 6, [width])


def wrong_prices(width):
    return wrong_groups(0, 9, [width])


def wrong_columns(width):
    """What is not an ascending tuple of columns."""
    right = tuple(range(width))
    wrong = NO_TUPLES + [(0, 0), right + (width,), (width,), right + (HUGE,), (-1,) + right]
    if width > 1:
        wrong += [(1, 0), right[::-1], right + right, (0, 1, 1), (1, True), (False, 1)]
    return wrong + [(item,) for item in ODD_ITEMS + [(), (0,)]] + [(0, item) for item in ODD_ITEMS]


def wrong_places(width):
    """What is not an ascending tuple of one or more columns."""
    return wrong_columns(width) + [()]


def wrong_counts():
    """What is not a list or tuple of one to seven integers of at least 1, with a sum of at most 12."""
    wrong = [(), (1,) * 8, (13,), (6, 7), (2,) * 7, (HUGE,), (1, HUGE), (0,), (1, 0), (0, 1, 1), (3, -1, 2), ((1, 2),)]
    wrong += [right[:at] + (item,) + right[at:] for right in ((), (2, 1)) for at in range(len(right) + 1)
              for item in ODD_ITEMS + [(), (1,), 0, 13, "1", b"1", 12 ** 30]]
    return NO_LISTINGS + [[], [[]]] + wrong + [list(counts) for counts in wrong]


def wrong_orders(many):
    """What is not a tuple of all indices below many."""
    right = tuple(range(many))
    wrong = NO_TUPLES + [list(right), right[1:], right + (0,), right + (many,), (many,) * many]
    wrong += [right[1:] + (item,) for item in ODD_ITEMS + [many, (), (0,)]]
    if many == 2:
        wrong += [(False, True), (0, True), (1, False)]
    return wrong + [(0,) * (many + 1)]


def wrong_row_orders(right):
    """What is not a tuple that contains the same two or more rows, of two columns, each once."""
    many = len(right)
    wrong = ODD_OBJECTS + [0, HUGE, (), list(right), right[1:], right + right[:1], right[1:] + right[1:2]]
    wrong += [tuple(range(many)), [list(row) for row in right], tuple(list(row) for row in right), right * 2]
    wrong += [right[1:] + (item,) for item in ODD_ITEMS + [(), (0,), (5, 5), (0, 0, 0), (HUGE, 1), 0]]
    return wrong + [right[1:] + (row,) for item in ODD_ITEMS for row in ((item, 1), (1, item))]


def wrong_asks(width):
    """What is not an ask for so many columns."""
    right = ("is", 0, (0,))
    wrong = NO_TUPLES + [(), (None,), ("is",), ("is", 0), right + (0,), ("same", 0), ("same", 0, 0, 0), list(right)]
    wrong += [("not",), ("not", right, right), ("and", right), ("or", right), ("and", right, right, right)]
    wrong += [("IS", 0, (0,)), ("", right), ("no", right), ("xor", right, right), (b"is", 0, (0,)), right[1:], (right,)]
    wrong += [("is", width, (0,)), ("is", 0, [0]), ("is", 0, {0: 1}), ("is", 0, 0), ("is", 0, (1, 0)), ("is", 0, (2, 2))]
    wrong += [("same", width, 0), ("same", 0, width), ("same", 0, (0,)), ("not", ["is", 0, (0,)]), ["not", right]]
    wrong += [("is", 0, (7,)), ("is", 0, (-1,)), ("is", 0, (0, 7)), ("is", 0, (False, 1)), ("is", 0, (0, True))]
    for item in ODD_ITEMS + [width]:
        wrong += [(item, 0, (0,)), ("is", item, (0,)), ("same", item, 0), ("same", 0, item), ("is", 0, item)]
        wrong += [("not", item), ("and", right, item), ("and", item, right), ("or", right, item), ("or", item, right)]
    return wrong + [("is", 0, (item,)) for item in ODD_ITEMS] + too_many_parts()


def too_many_parts():
    """Asks of ten parts, and of so many that they must not be followed to their end."""
    right = ("is", 0, (0,))
    deep = [right]
    for _ in range(100000):
        deep.append(("not", deep[-1]))
    broad = right
    for _ in range(200):
        broad = ("and", broad, broad)
    chain = right
    for _ in range(5):
        chain = ("or", chain, right)
    return [deep[9], deep[10], deep[100000], broad, chain, ("not", ("and", ("or", chain[1], right), ("not", right)))]


def some_tables(many=40, seed=1, rows=10, width=4, top=6):
    """The tables with the special forms that the document allows, and some others."""
    tables = [
        Table([(0,)]), Table([(6,)]), Table([(0, 6, 0, 6)]), Table([(3,)] * 10), Table([(0, 0)] * 3),
        Table([(1, 0), (0, 0), (1, 0), (0, 2)]), Table([(0, 0), (1, 1), (0, 1)]), Table([(0, 0), (1, 1)]),
        Table([(0, 6), (0, 6), (6, 0), (6, 0), (0, 6)]), Table([(6,), (0,), (6,), (6,), (0,)]),
        Table([(1, 0, 3), (0, 0, 3), (1, 0, 3), (0, 2, 4)]), Table([(n % 2, n % 3, n % 5, 0) for n in range(10)]),
        Table([(n % 7,) for n in range(10)]), Table([(0, 1, 2, 3), (3, 2, 1, 0)] * 5),
    ]
    chance = random.Random(seed)
    for _ in range(many):
        columns, highest = chance.randint(1, width), chance.randint(0, top)
        tables.append(Table([
            tuple(chance.randint(0, highest) for _ in range(columns)) for _ in range(chance.randint(1, rows))
        ]))
    return [table for table in tables if len(table) <= rows]


CORNERS = Table([(0, 0), (1, 1), (0, 1)])
SEVEN = Table([(0, 0), (1, 1), (0, 1), (2, 1), (2, 2), (0, 2), (6, 6), (0, 0), (6, 6)])
EIGHT = Table([(at % 4, at // 4) for at in range(8)])


def different(table):
    """The different rows of a table, ascending."""
    return sorted(set(table.rows))


def ways_left(table):
    """All pairs of an ascending tuple of different rows and a different row that is not in it."""
    rows = different(table)
    lefts = [left for many in range(len(rows)) for left in itertools.combinations(rows, many)]
    return [(left, row) for left in lefts for row in rows if row not in left]


def few_different(most, **more):
    """Some tables with at most so many different rows."""
    return [table for table in some_tables(**more) if len(set(table.rows)) <= most]


def some_prices(width, seed=1):
    """Prices of so many columns, 0 and 9 among them."""
    chance = random.Random(seed)
    found = [(1,) * width, (0,) * width, (9,) * width]
    return found + [tuple(chance.choice((0, 1, 2, 5, 9)) for _ in range(width)) for _ in range(2)]


def columns_of(width):
    """All ascending tuples of columns, by length and then as tuples."""
    return [picked for many in range(width + 1) for picked in itertools.combinations(range(width), many)]


def priced(one, other, prices):
    """The distance of two rows, reckoned column by column."""
    return sum(price for left, right, price in zip(one, other, prices) if left != right)


def walked(rows, prices):
    """The sum of the distances of adjacent rows."""
    return sum(priced(one, other, prices) for one, other in zip(rows, rows[1:]))


def whole_cost(rows, prices):
    """The cost of all runs of rows, reckoned row by row."""
    if not rows:
        return 0
    return sum(prices) + walked(rows, prices)


def grouped_runs(values):
    """The runs of values."""
    return [(value, len(list(equal))) for value, equal in itertools.groupby(values)]


def all_counts(cells):
    """All counts with a sum."""
    if cells == 0:
        return [()]
    return [(many,) + rest for many in range(1, cells + 1) for rest in all_counts(cells - many) if len(rest) < 7]


def columns_with(counts):
    """All columns with some counts, ascending."""
    if not any(counts):
        return [()]
    found = []
    for value, many in enumerate(counts):
        if many:
            fewer = counts[:value] + (many - 1,) + counts[value + 1:]
            found += [(value,) + rest for rest in columns_with(fewer)]
    return found


def runs_in(column):
    """The number of the runs of values."""
    return len(grouped_runs(column))


def how_many_columns(counts):
    """The number of all columns with some counts."""
    many = math.factorial(sum(counts))
    for count in counts:
        many //= math.factorial(count)
    return many
