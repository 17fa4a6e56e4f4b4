"""[7] Asks and [8] Pieces."""

import itertools
import random
import unittest

from runcolumns.asks import Answer, added, answer, ask_stretches, cuts, groups, how_many, looks
from runcolumns.errors import BadAsk, BadColumn, BadTable
from runcolumns.tables import Table
from tests.cases import Case
from tests.samples import (
    NO_TABLES, columns_of, grouped_runs, some_tables, wrong_asks, wrong_columns, wrong_numbers,
)

EXAMPLES = """
>>> from runcolumns.asks import Answer, added, answer, ask_stretches, cuts, groups, how_many, looks
>>> from runcolumns.tables import Table
>>> table = Table([(1, 0), (0, 0), (1, 0), (0, 2)])
>>> ask = ("or", ("is", 0, (0,)), ("not", ("same", 0, 1)))
>>> [ask_stretches(table, ask), ask_stretches(table, ("same", 0, 1)), how_many(table, ("is", 1, (0, 2))), looks(table, ask), added(table, ("is", 0, (0,)), 1)]
[[(0, 4)], [(1, 2)], 4, 8, 2]
>>> [cuts(table, (1,)), cuts(table, (0, 1)), groups(table, 0, 1), Answer([(("is", 0, (1,)), [(0, 1), (2, 3)])]).shows(table, ("is", 0, (1,))), answer(table, ask).shows(table, ask)]
[[0, 3], [0, 1, 2, 3], {0: (2, 2, 0, 2), 1: (2, 0, 0, 0)}, True, True]
"""

TABLE = Table([(1, 0), (0, 0), (1, 0), (0, 2)])
ONE = ("is", 0, (0,))
NINE = ("not", ("and", ("or", ONE, ("same", 0, 1)), ("not", ("or", ONE, ("is", 1, ())))))
DEEP = ("not", ("not", ("not", ("not", ("not", ("not", ("not", ("not", ONE))))))))
BROAD = ("and", ("or", ONE, ("same", 1, 1)), ("and", ("is", 1, (0, 6)), ("or", ("is", 0, ()), ONE)))


def count_parts(ask):
    return 1 + sum(count_parts(inner) for inner in ask[1:] if isinstance(inner, tuple) and inner and isinstance(inner[0], str))


def selected(table, ask):
    """The set of the indices of the rows that an ask selects, told from the words of [7]."""
    every = set(range(len(table)))
    if ask[0] == "is":
        return {at for at in every if table.rows[at][ask[1]] in ask[2]}
    if ask[0] == "same":
        return {at for at in every if table.rows[at][ask[1]] == table.rows[at][ask[2]]}
    inner = [selected(table, one) for one in ask[1:]]
    if ask[0] == "not":
        return every - inner[0]
    return inner[0] & inner[1] if ask[0] == "and" else inner[0] | inner[1]


def stretches_of(table, ask):
    """The stretches of an ask, by trying all pairs of indices."""
    rows, many = selected(table, ask), len(table)
    pairs = [(first, past) for first in range(many) for past in range(first + 1, many + 1)]
    pairs = [(first, past) for first, past in pairs if all(at in rows for at in range(first, past))]
    return [(first, past) for first, past in pairs if first - 1 not in rows and past not in rows]


def pieces(table, columns):
    """The number of pieces of some columns."""
    return len(grouped_runs([tuple(row[c] for c in columns) for row in table.rows]))


def count_looks(table, ask):
    if ask[0] == "is":
        return pieces(table, (ask[1],))
    if ask[0] == "same":
        return pieces(table, (ask[1], ask[2]))
    return sum(count_looks(table, inner) for inner in ask[1:])


def some_ask(chance, width, parts):
    """An ask with so many parts, where there is one."""
    if parts >= 3 and chance.random() < 0.7:
        left = chance.randint(1, parts - 2)
        return (chance.choice(("and", "or")), some_ask(chance, width, left), some_ask(chance, width, parts - 1 - left))
    if parts >= 2:
        return ("not", some_ask(chance, width, parts - 1))
    if chance.random() < 0.4:
        return ("same", chance.randrange(width), chance.randrange(width))
    return ("is", chance.randrange(width), tuple(sorted(chance.sample(range(7), chance.randint(0, 4)))))


def inner_asks(ask):
    return [] if ask[0] in ("is", "same") else list(ask[1:])


class AsksTest(Case):

    def test_examples(self):
        self.check_examples(EXAMPLES)

    def test_all_calls_against_rows(self):
        chance = random.Random(3)
        for table in some_tables(many=60):
            for parts in range(1, 10):
                ask = some_ask(chance, table.width, parts)
                self.assertEqual(count_parts(ask), parts)
                self.check_ask(table, ask)

    def test_some_forms(self):
        self.assertEqual([count_parts(ask) for ask in (NINE, DEEP, BROAD)], [9, 9, 9])
        for table in (TABLE, Table([(0, 6)]), Table([(at % 3, at % 2) for at in range(10)])):
            for ask in (ONE, NINE, DEEP, BROAD, ("is", 1, ()), ("not", ("is", 1, ())), ("same", 1, 1), ("same", 1, 0)):
                self.check_ask(table, ask)
            self.check_ask(table, ("is", 0, (0, 1, 2, 3, 4, 5, 6)))
            self.assertEqual(ask_stretches(table, ("is", 0, ())), [])
            self.assertEqual(ask_stretches(table, ("same", 0, 0)), [(0, len(table))])

    def check_ask(self, table, ask):
        rows = selected(table, ask)
        self.assertEqual(ask_stretches(table, ask), stretches_of(table, ask))
        self.assertEqual(how_many(table, ask), len(rows))
        self.assertEqual(looks(table, ask), count_looks(table, ask))
        for c in range(table.width):
            self.assertEqual(added(table, ask, c), sum(table.rows[at][c] for at in rows))
        found = answer(table, ask)
        self.assertTrue(found.shows(table, ask))
        self.assertEqual(found.parts[-1], (ask, stretches_of(table, ask)))
        for at, (part, stretches) in enumerate(found.parts):
            self.assertEqual(stretches, stretches_of(table, part))
            self.assertLessEqual(len(inner_asks(part)), at)

    def test_looks_of_columns(self):
        table = Table([(0, 0, 1), (0, 1, 1), (1, 1, 1), (1, 1, 0)])
        self.assertEqual([looks(table, ("is", c, ())) for c in range(3)], [2, 2, 2])
        self.assertEqual([looks(table, ("same", 0, c)) for c in range(3)], [2, 3, 3])
        self.assertEqual(looks(table, ("not", ("not", ("same", 1, 2)))), 3)
        self.assertEqual(looks(table, ("or", ("same", 2, 0), ("same", 2, 0))), 6)

    def test_cuts_against_rows(self):
        for table in some_tables():
            for columns in columns_of(table.width):
                rows = [tuple(row[c] for c in columns) for row in table.rows]
                expected = [at for at in range(len(rows)) if at == 0 or rows[at] != rows[at - 1]]
                self.assertEqual(cuts(table, columns), expected)
        self.assertEqual(cuts(TABLE, ()), [0])

    def test_groups_against_rows(self):
        for table in some_tables():
            for c, d in itertools.product(range(table.width), repeat=2):
                found = groups(table, c, d)
                self.assertEqual(list(found), sorted({row[c] for row in table.rows}))
                for value in found:
                    others = [row[d] for row in table.rows if row[c] == value]
                    self.assertEqual(found[value], (len(others), sum(others), min(others), max(others)))


class AnswerTest(Case):

    def setUp(self):
        self.same, self.lone = ("same", 0, 1), ("not", ("same", 0, 1))
        self.ask = ("or", ONE, self.lone)
        self.parts = [(one, stretches_of(TABLE, one)) for one in (ONE, self.same, self.lone, self.ask)]

    def test_other_orders(self):
        for order in itertools.permutations(range(4)):
            parts = [self.parts[at] for at in order]
            right = parts[-1][0] == self.ask and parts.index(self.parts[1]) < parts.index(self.parts[2])
            self.assertEqual(Answer(parts).shows(TABLE, self.ask), right)

    def test_missing_parts(self):
        for at in range(4):
            self.assertFalse(Answer(self.parts[:at] + self.parts[at + 1:]).shows(TABLE, self.ask))
        self.assertFalse(Answer([]).shows(TABLE, ONE))
        self.assertFalse(Answer(self.parts[-1:]).shows(TABLE, self.ask))

    def test_other_asks_and_duplicates(self):
        more = [(("is", 1, (5,)), []), (("is", 1, (0,)), [(0, 3)])]
        self.assertTrue(Answer(more + self.parts).shows(TABLE, self.ask))
        self.assertTrue(Answer(self.parts + self.parts).shows(TABLE, self.ask))
        self.assertTrue(Answer(self.parts[:2] + more + self.parts[1:] + self.parts[-1:]).shows(TABLE, self.ask))
        self.assertFalse(Answer(self.parts + more).shows(TABLE, self.ask))
        self.assertFalse(Answer([(("not", ("is", 1, (5,))), [(0, 4)])] + self.parts).shows(TABLE, self.ask))
        self.assertFalse(Answer([(("is", 1, (5,)), [(0, 1)])] + self.parts).shows(TABLE, self.ask))
        self.assertFalse(Answer(self.parts).shows(TABLE, ONE))
        self.assertFalse(Answer(self.parts).shows(TABLE, ("or", self.lone, ONE)))

    def test_wrong_stretches(self):
        for at in range(4):
            right = self.parts[at][1]
            wrong = [[], [(0, 4)], [(0, 1)], right + [(0, 1)], right[::-1], right[1:], [(0, 1), (1, 4)], [(4, 4)]]
            wrong += [[(0, 10 ** 60)], [(-4, 4)], right + [(4, 5)], [(2, 4), (0, 1)]]
            wrong = [stretches for stretches in wrong if stretches != right]
            wrong.append([tuple({0: False, 1: True}.get(index, index) for index in pair) for pair in right])
            for stretches in wrong:
                parts = self.parts[:at] + [(self.parts[at][0], stretches)] + self.parts[at + 1:]
                self.assertFalse(Answer(parts).shows(TABLE, self.ask), (at, stretches))

    def test_wrong_asks_among_the_parts(self):
        for part in [("is", False, (0,)), ("same", 0, 2), ("is", 0, (7,)), ("not", DEEP)]:
            parts = answer(TABLE, DEEP).parts + [(part, [(1, 2), (3, 4)])] + self.parts
            self.assertFalse(Answer(parts).shows(TABLE, self.ask), part)

    def test_deep_asks(self):
        for ask in (NINE, DEEP, BROAD):
            found = answer(TABLE, ask)
            self.assertTrue(Answer(found.parts).shows(TABLE, ask))
            self.assertFalse(Answer(found.parts[1:]).shows(TABLE, ask))
            self.assertFalse(found.shows(TABLE, ("not", ("not", ONE))))

    def test_current_parts_are_judged(self):
        found = answer(TABLE, self.ask)
        found.parts[0][1].append((3, 4))
        self.assertFalse(found.shows(TABLE, self.ask))
        found.parts = list(self.parts)
        self.assertTrue(found.shows(TABLE, self.ask))

    def test_parts_are_copied(self):
        stretches = [(1, 2), (3, 4)]
        parts = [(ONE, stretches)]
        found = Answer(parts)
        parts.clear()
        stretches.clear()
        self.assertEqual(found.parts, [(ONE, [(1, 2), (3, 4)])])
        self.assertEqual(stretches, [])

    def test_equal(self):
        self.check_equality(
            lambda: Answer([]), lambda: Answer([(ONE, [])]), lambda: Answer([(ONE, [(0, 1)])]),
            lambda: Answer([(ONE, []), (ONE, [])]),
        )

    def test_returned_lists_are_new(self):
        for call in (ask_stretches, lambda table, ask: answer(table, ask).parts, lambda table, ask: cuts(table, (0,))):
            first = call(TABLE, ONE)
            expected = list(first)
            first.clear()
            self.assertEqual(call(TABLE, ONE), expected)
        answer(TABLE, ONE).parts[0][1].clear()
        groups(TABLE, 0, 1).clear()
        self.assertEqual(answer(TABLE, ONE).parts, [(ONE, [(1, 2), (3, 4)])])
        self.assertEqual(len(groups(TABLE, 0, 1)), 2)


class AsksErrorsTest(Case):

    def test_wrong_asks(self):
        for table in (TABLE, Table([(0,)]), Table([(0, 1, 2, 3)] * 10)):
            no_asks = wrong_asks(table.width)
            for call in (ask_stretches, how_many, looks, answer, Answer([]).shows):
                self.check_arguments(call, (table, BadTable, NO_TABLES), (ONE, BadAsk, no_asks))
            self.check_arguments(
                added, (table, BadTable, NO_TABLES), (ONE, BadAsk, no_asks),
                (0, BadColumn, wrong_numbers(0, table.width - 1)))

    def test_nine_parts_and_ten(self):
        for ask in (NINE, DEEP, BROAD):
            for call in (ask_stretches, how_many, looks, answer, Answer([]).shows, lambda *held: added(*held, 0)):
                call(TABLE, ask)
                for more in (("not", ask), ("and", ask, ONE), ("or", ONE, ask)):
                    self.refused(BadAsk, call, TABLE, more)

    def test_wrong_columns(self):
        for table in (TABLE, Table([(0, 0)] * 10)):
            self.check_arguments(cuts, (table, BadTable, NO_TABLES), ((0, 1), BadColumn, wrong_columns(2)))
            self.check_arguments(
                groups, (table, BadTable, NO_TABLES), (0, BadColumn, wrong_numbers(0, 1)),
                (1, BadColumn, wrong_numbers(0, 1)))


if __name__ == "__main__":
    unittest.main()
