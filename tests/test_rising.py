"""[19] Rising together."""

import itertools
import random
import unittest

from runcolumns.errors import BadColumn, BadTable
from runcolumns.rising import (
    Crossing, Rising, Risen, count_crossing, cut_rising, fewest_rising, rise_together,
)
from runcolumns.tables import Table
from tests.cases import Case
from tests.samples import HUGE, NO_TABLES, columns_of, some_tables, wrong_places

EXAMPLES = """
>>> from runcolumns.rising import Crossing, Rising, Risen, count_crossing, cut_rising, fewest_rising, rise_together
>>> from runcolumns.tables import Table
>>> table = Table([(0, 1), (1, 0), (1, 1), (0, 0)])
>>> [count_crossing(table, (0, 1)), fewest_rising(table, (0, 1)), Crossing(1, 0).shows(table, (0, 1)), rise_together(table, (0,)).shows(table, (0,)), Rising((3, 0, 2, 1)).shows(table, (1,))]
[1, 2, True, True, False]
>>> [Risen([(3, 0, 2), (1,)], (0, 1)).shows(table, (0, 1)), Risen([(3, 0, 2), (1,)], (0, 2)).shows(table, (0, 1)), cut_rising(table, (0, 1)).shows(table, (0, 1))]
[True, False, True]
"""

TABLE = Table([(0, 1), (1, 0), (1, 1), (0, 0)])
ALL_CROSS = Table([(at % 7, 6 - at % 7, 2 * (at // 7), 3 - at // 7) for at in range(10)])
TABLES = some_tables(many=60, rows=5, top=3) + some_tables(many=20, rows=5, seed=3, width=2, top=2)
LARGE = some_tables(many=25, seed=7) + some_tables(many=25, seed=8, top=2) + [ALL_CROSS, Table([(0, 3), (3, 0)] * 5)]


def crossed(table, places, one, other):
    pairs = [(table.rows[one][c], table.rows[other][c]) for c in places]
    return any(left < right for left, right in pairs) and any(left > right for left, right in pairs)


def rises(table, places, order):
    return all(table.rows[one][c] <= table.rows[other][c] for one, other in zip(order, order[1:]) for c in places)


def crossing_pairs(table, places):
    return [pair for pair in itertools.combinations(range(len(table)), 2) if crossed(table, places, *pair)]


def most_crossing(table, places):
    """All largest tuples of rows of which any two cross, by trying all."""
    for many in range(len(table), 0, -1):
        found = [some for some in itertools.combinations(range(len(table)), many)
                 if all(crossed(table, places, *pair) for pair in itertools.combinations(some, 2))]
        if found:
            return found
    return None


def all_cuttings(table, places):
    """All lists of pieces with each row in one of them along which all columns rise, up to the order of pieces."""
    found = [[]]
    for index in range(len(table)):
        longer = []
        for pieces in found:
            longer.append(pieces + [(index,)])
            for at, piece in enumerate(pieces):
                for place in range(len(piece) + 1):
                    grown = piece[:place] + (index,) + piece[place:]
                    if rises(table, places, grown):
                        longer.append(pieces[:at] + [grown] + pieces[at + 1:])
        found = longer
    return found


def given(table):
    return columns_of(table.width)[1:]


class RisingTest(Case):

    def test_examples(self):
        self.check_examples(EXAMPLES)

    def test_against_all_orders(self):
        for table in TABLES:
            for places in given(table):
                found = rise_together(table, places)
                orders = [order for order in itertools.permutations(range(len(table))) if rises(table, places, order)]
                if orders:
                    self.assertIsInstance(found, Rising)
                    self.assertIn(found.order, orders)
                else:
                    self.assertIsInstance(found, Crossing)
                    self.assertTrue(crossed(table, places, found.one, found.other))
                self.assertTrue(found.shows(table, places))

    def test_against_all_pairs(self):
        for table in TABLES + LARGE:
            for places in given(table):
                pairs = crossing_pairs(table, places)
                self.assertEqual(count_crossing(table, places), len(pairs))
                self.assertEqual(isinstance(rise_together(table, places), Rising), not pairs)
                self.assertTrue(rise_together(table, places).shows(table, places))

    def test_all_orders_are_judged(self):
        for table in [table for table in TABLES if len(table) <= 4][:30] + [TABLE]:
            for places in given(table):
                for order in itertools.permutations(range(len(table))):
                    right = rises(table, places, order)
                    self.assertEqual(Rising(order).shows(table, places), right)
                    self.assertEqual(Rising(list(order)).shows(table, places), right)

    def test_all_pairs_are_judged(self):
        for table in TABLES + LARGE[:20]:
            for places in given(table):
                for one, other in itertools.product(range(len(table)), repeat=2):
                    right = crossed(table, places, one, other)
                    self.assertEqual(Crossing(one, other).shows(table, places), right)

    def test_only_the_right_indices(self):
        self.assertTrue(Crossing(0, 1).shows(TABLE, (0, 1)))
        self.assertFalse(Crossing(0, 1).shows(TABLE, (0,)))
        for one, other in [(0, 0), (0, 4), (4, 1), (0, -3), (-4, 1), (HUGE, 1), (0, -HUGE), (False, 1), (0, True), (2, 3)]:
            self.assertFalse(Crossing(one, other).shows(TABLE, (0, 1)), (one, other))
        self.assertTrue(Rising((3, 1, 0, 2)).shows(TABLE, (1,)))
        wrong = [(), (3, 1, 0), (3, 1, 0, 2, 2), (3, 1, 0, 0), (3, 1, 0, 4), (3, 1, 0, -2), (3, True, 0, 2), (3, 1, False, 2)]
        for order in wrong + [(3, 1, 0, HUGE), (1, 3, 2), (3, 0, 1, 2)]:
            self.assertFalse(Rising(order).shows(TABLE, (1,)), order)

    def test_equal_rows(self):
        same = Table([(2, 5)] * 10)
        self.assertEqual((count_crossing(same, (0, 1)), fewest_rising(same, (0, 1))), (0, 1))
        self.assertTrue(rise_together(same, (0, 1)).shows(same, (0, 1)))
        twice = Table([(0, 1), (1, 0), (0, 1), (1, 0)])
        self.assertEqual((count_crossing(twice, (0, 1)), fewest_rising(twice, (0, 1))), (4, 2))
        self.assertTrue(Risen([(2, 0), (3, 1)], (1, 2)).shows(twice, (0, 1)))
        self.assertFalse(Risen([(2, 0), (3, 1)], (0, 2)).shows(twice, (0, 1)))
        for one, other in [(-1, 0), (0, -1), (-2, 1), (0, 5), (4, 0)]:
            self.assertFalse(Crossing(one, other).shows(twice, (0, 1)), (one, other))
            self.assertFalse(Risen([(2, 0), (3, 1)], (one, other)).shows(twice, (0, 1)), (one, other))


class RisenTest(Case):

    def test_against_all_cuttings(self):
        for table in TABLES:
            for places in given(table):
                found, crossing = cut_rising(table, places), most_crossing(table, places)
                fewest = min(len(pieces) for pieces in all_cuttings(table, places))
                self.assertEqual((fewest_rising(table, places), len(found.pieces)), (fewest, fewest))
                self.assertEqual(len(crossing[0]), fewest)
                self.check_risen(table, places, found, crossing)

    def check_risen(self, table, places, found, crossing):
        self.assertEqual(sorted(index for piece in found.pieces for index in piece), list(range(len(table))))
        self.assertTrue(all(piece and rises(table, places, piece) for piece in found.pieces))
        self.assertTrue(all(isinstance(piece, tuple) for piece in found.pieces))
        self.assertIsInstance(found.pieces, list)
        self.assertIn(found.crossing, crossing)
        self.assertTrue(found.shows(table, places))
        self.assertTrue(Risen(found.pieces[::-1], crossing[-1]).shows(table, places))

    def test_large_tables(self):
        for table in LARGE:
            for places in given(table):
                found, crossing = cut_rising(table, places), most_crossing(table, places)
                self.assertEqual((fewest_rising(table, places), len(found.pieces)), (len(crossing[0]),) * 2)
                self.check_risen(table, places, found, crossing)
        self.assertEqual((fewest_rising(ALL_CROSS, (0, 1)), count_crossing(ALL_CROSS, (0, 1, 2, 3))), (7, 45))
        self.assertEqual(fewest_rising(ALL_CROSS, (0, 1, 2, 3)), 10)
        self.assertEqual(fewest_rising(ALL_CROSS, (0,)), 1)

    def test_all_pieces_are_judged(self):
        for table in [table for table in TABLES if len(table) <= 4 and table.width <= 3][:25] + [TABLE]:
            places = tuple(range(table.width))
            crossing = most_crossing(table, places)
            for pieces in all_cuttings(table, places):
                right = len(pieces) == len(crossing[0])
                self.assertEqual(Risen(pieces, crossing[0]).shows(table, places), right)
                self.assertEqual(Risen([list(piece) for piece in pieces][::-1], crossing[0]).shows(table, places), right)
            pieces = cut_rising(table, places).pieces
            for some in columns_of(len(table)):
                self.assertEqual(Risen(pieces, some).shows(table, places), some in crossing)

    def test_wrong_pieces(self):
        right = [(3, 0, 2), (1,)]
        self.assertTrue(Risen(right, (0, 1)).shows(TABLE, (0, 1)))
        wrong = [[], [(3, 0, 2)], [(3, 0, 2), (1,), ()], [(3, 0, 2), ()], [(3, 0), (2, 1)], [(0, 3, 2), (1,)], [(3, 0), (1,)]]
        wrong += [[(3, 0, 2), (1, 2)], [(3, 0, 2), (1, 1)], [(3, 0, 2), (4,)], [(3, 0, 2), (-3,)], [(3, 0, 2), (True,)]]
        wrong += [[(3, False, 2), (1,)], [(3, 0), (2,), (1,)], [(3, 0, 2), (HUGE,)], [(3, 0, 1, 2)], [(3, 0, 2, 1)]]
        for pieces in wrong:
            self.assertFalse(Risen(pieces, (0, 1)).shows(TABLE, (0, 1)), pieces)
        for crossing in [(), (0,), (1, 0), (0, 0), (0, 2), (0, 1, 2), (0, 4), (-4, 1), (0, True), (False, 1), (0, HUGE)]:
            self.assertFalse(Risen(right, crossing).shows(TABLE, (0, 1)), crossing)
            self.assertFalse(Risen(right, list(crossing)).shows(TABLE, (0, 1)), crossing)
        self.assertFalse(Risen(right, (0, 1)).shows(TABLE, (0,)))
        self.assertFalse(Risen([(0,), (1, 2), (3,)], (0, 1)).shows(TABLE, (0, 1)))
        self.assertFalse(Risen([(0, 1, 2, 3), ()], (0, 1)).shows(Table([(0, 1), (1, 0), (1, 1), (1, 1)]), (0, 1)))

    def test_current_attributes_are_judged(self):
        found = cut_rising(TABLE, (0, 1))
        found.pieces, found.crossing = [[3, 1, 2], [0]], [0, 1]
        self.assertTrue(found.shows(TABLE, (0, 1)))
        found.pieces[0].reverse()
        self.assertFalse(found.shows(TABLE, (0, 1)))
        found = rise_together(TABLE, (0,))
        found.order = [3, 0, 1, 2]
        self.assertTrue(found.shows(TABLE, (0,)))
        found.order = [1, 0, 2, 3]
        self.assertFalse(found.shows(TABLE, (0,)))
        found = rise_together(TABLE, (0, 1))
        found.one, found.other = 0, 2
        self.assertFalse(found.shows(TABLE, (0, 1)))


class RisingErrorsTest(Case):

    def test_wrong_arguments(self):
        calls = [rise_together, cut_rising, fewest_rising, count_crossing]
        calls += [Rising(()).shows, Crossing(0, 1).shows, Risen([], ()).shows]
        for table in (TABLE, Table([(0,)]), Table([(0, 1, 2, 3)] * 10)):
            for call in calls:
                for places in ((0,), tuple(range(table.width))):
                    self.check_arguments(
                        call, (table, BadTable, NO_TABLES), (places, BadColumn, wrong_places(table.width)))

    def test_copies(self):
        order, piece, crossing = [0, 1], [1, 0], [0]
        pieces = [piece]
        rising, risen = Rising(order), Risen(pieces, crossing)
        for held in (order, piece, crossing, pieces):
            held.clear()
        self.assertEqual((rising.order, risen.pieces, risen.crossing), ((0, 1), [(1, 0)], (0,)))
        cut_rising(TABLE, (0, 1)).pieces.clear()
        self.assertTrue(cut_rising(TABLE, (0, 1)).shows(TABLE, (0, 1)))

    def test_equal(self):
        self.check_equality(
            lambda: Rising([0, 1]), lambda: Rising((1, 0)), lambda: Crossing(0, 1), lambda: Crossing(1, 0),
            lambda: Crossing(0, 2), lambda: Crossing(2, 1), lambda: Risen([(0,)], (0,)),
            lambda: Risen([[0], [1]], (0,)), lambda: Risen([(0,)], ()),
        )
        self.assertEqual(Risen([[0, 1]], [0]), Risen(((0, 1),), (0,)))
        self.assertEqual(cut_rising(TABLE, (0, 1)), cut_rising(TABLE, (0, 1)))

    def test_chance_tables_of_ten_rows(self):
        chance = random.Random(9)
        for _ in range(30):
            table = Table([tuple(chance.randint(0, 6) for _ in range(3)) for _ in range(10)])
            self.assertEqual(fewest_rising(table, (0, 1, 2)), len(most_crossing(table, (0, 1, 2))[0]))


if __name__ == "__main__":
    unittest.main()
