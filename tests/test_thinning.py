"""[24] Thinned columns."""

import itertools
import random
import unittest

from runcolumns.errors import BadColumn, BadIndex, BadTable
from runcolumns.tables import Table
from runcolumns.thinning import Thinned, count_thinned, fewest_thinned, most_thinned, thin
from tests.cases import Case
from tests.samples import HUGE, NO_TABLES, runs_in, some_tables, wrong_numbers

EXAMPLES = """
>>> from runcolumns.tables import Table
>>> from runcolumns.thinning import Thinned, count_thinned, fewest_thinned, most_thinned, thin
>>> table = Table([(1,), (0,), (1,), (2,)])
>>> [[fewest_thinned(table, 0, many) for many in (1, 2, 3, 4)], [most_thinned(table, 0, many) for many in (1, 2, 3, 4)], count_thinned(table, 0, 2), count_thinned(table, 0, 3)]
[[1, 1, 2, 4], [1, 2, 3, 4], [1, 5], [0, 1, 3]]
>>> [thin(table, 0, 3).kept, thin(table, 0, 3).shows(table, 0, 3), Thinned((0, 2), {(0, 2, None): 1}).shows(table, 0, 2)]
[(0, 2, 3), True, False]
"""


def column(*values):
    return Table([(value,) for value in values])


TABLE = column(1, 0, 1, 2)
SMALL = [values for many in range(1, 6) for values in itertools.product(range(3), repeat=many)]
TABLES = some_tables(many=40) + [
    column(0, 1, 0, 1, 0, 1, 0, 1, 0, 1), column(0, 1, 2, 3, 4, 5, 6, 0, 1, 2), column(*[4] * 10),
    column(6, 0, 6, 5, 5, 6, 0, 0, 6, 5),
]


def all_choices(values, many):
    """All choices of so many rows, each with its number of runs."""
    return {
        kept: runs_in([values[at] for at in kept]) for kept in itertools.combinations(range(len(values)), many)
    }


def best_choices(values, many):
    found = all_choices(values, many)
    return [kept for kept in found if found[kept] == min(found.values())]


def proves(values, many, kept, floors):
    """Whether rows and floors are as in [24], told from its words."""
    if runs_in([values[at] for at in kept]) != floors.get((0, many, None)):
        return False
    for (considered, more, last), floor in floors.items():
        left = len(values) - considered
        if not 0 <= more <= left:
            return False
        if left == 0 and floor > 0:
            return False
        if more < left and floor > floors.get((considered + 1, more, last), -HUGE):
            return False
        if left and more > 0:
            value = values[considered]
            if floor > floors.get((considered + 1, more - 1, value), -HUGE) + (value != last):
                return False
    return True


class ThinningTest(Case):

    def test_examples(self):
        self.check_examples(EXAMPLES)

    def test_against_all_choices(self):
        tables = [column(*values) for values in SMALL] + TABLES
        for table in tables:
            for c in range(table.width):
                for many in range(1, len(table) + 1):
                    self.check_choices(table, c, many)

    def check_choices(self, table, c, many):
        values = table.column(c)
        numbers = list(all_choices(values, many).values())
        self.assertEqual(fewest_thinned(table, c, many), min(numbers))
        self.assertEqual(most_thinned(table, c, many), max(numbers))
        counts = [numbers.count(runs) for runs in range(1, max(numbers) + 1)]
        self.assertEqual(count_thinned(table, c, many), counts)
        found = thin(table, c, many)
        self.assertIsInstance(found.kept, tuple)
        self.assertIn(found.kept, best_choices(values, many))
        self.assertTrue(proves(values, many, found.kept, found.floors))
        self.assertTrue(found.shows(table, c, many))

    def test_one_row(self):
        found = thin(column(4), 0, 1)
        self.assertEqual((found.kept, found.floors), ((0,), {(0, 1, None): 1, (1, 0, 4): 0}))
        self.assertEqual((fewest_thinned(column(4), 0, 1), most_thinned(column(4), 0, 1)), (1, 1))
        self.assertEqual(count_thinned(column(4), 0, 1), [1])

    def test_numbers_that_no_choice_has(self):
        self.assertEqual(count_thinned(column(0, 1, 0, 1), 0, 4), [0, 0, 0, 1])
        self.assertEqual(count_thinned(column(0, 1, 2, 3, 4, 5, 6), 0, 5), [0, 0, 0, 0, 21])
        self.assertEqual(count_thinned(column(*[4] * 10), 0, 5), [252])

    def test_the_column_counts(self):
        table = Table([(0, 0), (0, 1), (0, 0), (0, 1)])
        self.assertEqual([most_thinned(table, c, 3) for c in (0, 1)], [1, 3])
        self.assertTrue(thin(table, 1, 3).shows(table, 1, 3))
        self.assertFalse(thin(table, 1, 3).shows(table, 0, 3))
        self.assertFalse(thin(table, 1, 3).shows(table, 1, 2))


class ThinnedTest(Case):

    def test_all_rows_are_judged(self):
        for values in SMALL[::4]:
            for many in range(1, len(values) + 1):
                table, floors, right = column(*values), thin(column(*values), 0, many).floors, best_choices(values, many)
                for size in range(len(values) + 1):
                    for kept in itertools.combinations(range(len(values)), size):
                        self.assertEqual(Thinned(kept, floors).shows(table, 0, many), kept in right)
                        self.assertEqual(Thinned(list(kept), floors).shows(table, 0, many), kept in right)

    def test_only_right_rows(self):
        floors = thin(TABLE, 0, 2).floors
        self.assertTrue(Thinned((0, 2), floors).shows(TABLE, 0, 2))
        for kept in [(), (0,), (2, 0), (0, 0), (0, 4), (-1, 0), (0, -2), (0, HUGE), (0, 1), (0, 1, 2), (False, 2), (-4, 2)]:
            self.assertFalse(Thinned(kept, floors).shows(TABLE, 0, 2), kept)
        table = column(0, 1, 0)
        for kept, right in [((0, 2), True), ((-1, 0), False), ((-3, 0), False), ((-1, 2), False), ((2, 3), False)]:
            self.assertEqual(Thinned(kept, thin(table, 0, 2).floors).shows(table, 0, 2), right, kept)

    def test_floors_against_the_words(self):
        chance = random.Random(4)
        kinds = set()
        for values in SMALL[30::7] + [tuple(TABLES[-1].column(0))]:
            for many in range(1, len(values) + 1):
                found = thin(column(*values), 0, many)
                for _ in range(30):
                    floors = self.changed(chance, values, found.floors)
                    right = proves(values, many, found.kept, floors)
                    kinds.add(right)
                    told = Thinned(found.kept, floors).shows(column(*values), 0, many)
                    self.assertEqual(told, right, (values, many, floors))
        self.assertEqual(kinds, {True, False})

    def changed(self, chance, values, floors):
        """The floors with some integers changed, and states left out or added, in any order."""
        states = list(floors)
        chance.shuffle(states)
        floors = {state: floors[state] for state in states}
        for state in states[:chance.choice((1, 1, 2))]:
            deed = chance.choice(("less", "more", "out", "in"))
            if deed == "out":
                del floors[state]
            elif deed == "in":
                considered = chance.randint(0, len(values))
                more = chance.randint(0, len(values) - considered + chance.choice((0, 0, 1)))
                floors[considered, more, chance.choice(values + (None,))] = chance.choice((-3, -1, 0, 0, 1, 2))
            else:
                floors[state] += chance.choice((1, 1, 2, HUGE)) * (1 if deed == "more" else -1)
        return floors

    def test_each_state_is_needed(self):
        for table, many in [(TABLE, 2), (TABLE, 3), (TABLES[-1], 4)]:
            found = thin(table, 0, many)
            names = list(found.floors)
            for order in (names[::-1], sorted(names, key=str)):
                self.assertTrue(Thinned(found.kept, {name: found.floors[name] for name in order}).shows(table, 0, many))
            for left_out in names:
                floors = {name: found.floors[name] for name in names if name != left_out}
                self.assertFalse(Thinned(found.kept, floors).shows(table, 0, many), left_out)

    def test_integers_of_states(self):
        found = thin(column(0, 1), 0, 1)
        self.assertEqual(found.floors, {(0, 1, None): 1, (1, 1, None): 1, (1, 0, 0): 0, (2, 0, 1): 0, (2, 0, 0): 0})
        for state, number, right in [
            ((0, 1, None), 0, False), ((0, 1, None), 2, False), ((1, 1, None), 0, False), ((1, 1, None), 2, False),
            ((1, 0, 0), -1, False), ((1, 0, 0), 1, False), ((2, 0, 0), 1, False), ((2, 0, 0), -1, False),
        ]:
            floors = {**found.floors, state: number}
            self.assertEqual(Thinned((0,), floors).shows(column(0, 1), 0, 1), right, (state, number))
        for number, right in [(1, False), (0, True), (-1, True), (-HUGE, True), (HUGE, False), (False, False)]:
            floors = {**found.floors, (2, 0, None): number}
            self.assertEqual(Thinned((0,), floors).shows(column(0, 1), 0, 1), right, number)
        # Where going on is cheaper by another way, the integer of a state may be less than it could be.
        wide = thin(column(0, 1, 1), 0, 2)
        self.assertEqual((wide.kept, wide.floors[(1, 1, 0)]), ((1, 2), 1))
        for number, right in [(1, True), (0, True), (-1, False), (2, False)]:
            floors = {**wide.floors, (1, 1, 0): number}
            self.assertEqual(Thinned((1, 2), floors).shows(column(0, 1, 1), 0, 2), right, number)

    def test_what_is_no_state(self):
        found = thin(TABLE, 0, 2)
        self.assertTrue(Thinned(found.kept, {**found.floors, (4, 0, None): 0, (3, 0, None): -1}).shows(TABLE, 0, 2))
        strange = [(5, 0, 0), (5, 0, None), (4, 1, 0), (3, 2, 0), (-1, 0, 0), (4, -1, 0), (4, 0, 7), (4, 0, -1), (HUGE, 0, 0)]
        strange += [(), (4,), (4, 0), (4, 0, 0, 0), 0, None, "400", (4, 0, (0,)), ((4,), 0, 0), (4, None, 0), (None, 0, 0)]
        for state in strange + [(4, 0, True), (4, False, 3), (4, 0, "0"), (4, 0, HUGE), ("4", 0, 0), (2, 3, None)]:
            floors = {name: found.floors[name] for name in found.floors if name != state}
            self.assertFalse(Thinned(found.kept, {**floors, state: 0}).shows(TABLE, 0, 2), state)
        # States from which all rows are dropped: each has what comes next beside it.
        dropped = {**found.floors, **{(at, 0, None): 0 for at in range(5)}}
        self.assertTrue(Thinned(found.kept, dropped).shows(TABLE, 0, 2))
        self.assertFalse(Thinned(found.kept, {**dropped, (-1, 0, None): 0}).shows(TABLE, 0, 2))

    def test_booleans_are_not_integers(self):
        table = column(0, 1)
        floors = thin(table, 0, 1).floors
        for old, new in [((1, 0, 0), (True, 0, 0)), ((1, 0, 0), (1, False, 0)), ((2, 0, 1), (2, 0, True))]:
            held = {new if state == old else state: floors[state] for state in floors}
            self.assertEqual(held, floors)
            self.assertFalse(Thinned((0,), held).shows(table, 0, 1))
        for state in floors:
            self.assertFalse(Thinned((0,), {**floors, state: bool(floors[state])}).shows(table, 0, 1))
        self.assertFalse(Thinned((False,), floors).shows(table, 0, 1))

    def test_current_attributes_are_judged(self):
        found = thin(TABLE, 0, 2)
        found.kept = [0, 2]
        self.assertTrue(found.shows(TABLE, 0, 2))
        found.kept[1] = 1
        self.assertFalse(found.shows(TABLE, 0, 2))
        found = thin(TABLE, 0, 2)
        found.floors.clear()
        self.assertFalse(found.shows(TABLE, 0, 2))

    def test_copies(self):
        kept, floors = [0], {(0, 1, None): 1}
        found = Thinned(kept, floors)
        kept.clear()
        floors.clear()
        self.assertEqual((found.kept, found.floors), ((0,), {(0, 1, None): 1}))
        thin(TABLE, 0, 2).floors.clear()
        count_thinned(TABLE, 0, 2).clear()
        self.assertTrue(thin(TABLE, 0, 2).shows(TABLE, 0, 2))
        self.assertEqual(count_thinned(TABLE, 0, 2), [1, 5])

    def test_equal(self):
        self.check_equality(
            lambda: Thinned([0], {}), lambda: Thinned((), {}), lambda: Thinned((0,), {(0, 1, None): 1}))
        self.assertEqual(thin(TABLE, 0, 2), thin(TABLE, 0, 2))


class ThinningErrorsTest(Case):

    def test_wrong_arguments(self):
        for table in (TABLE, TABLES[-2], Table([(0, 1, 2, 3)] * 10), column(5), Table([(0, 1)] * 2)):
            arguments = (table, BadTable, NO_TABLES), (table.width - 1, BadColumn, wrong_numbers(0, table.width - 1))
            for many in {1, len(table)}:
                for call in (thin, fewest_thinned, most_thinned, count_thinned, Thinned((), {}).shows):
                    self.check_arguments(call, *arguments, (many, BadIndex, wrong_numbers(1, len(table))))


if __name__ == "__main__":
    unittest.main()
