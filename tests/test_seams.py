"""[25] Seams."""

import itertools
import random
import unittest

from runcolumns.errors import BadPieces, BadPrices, TooLarge
from runcolumns.runs import cost
from runcolumns.seams import Seamed, best_seams, least_seams, put_together_best
from runcolumns.tables import Table
from tests.cases import Case
from tests.samples import HUGE, NO_LISTINGS, NO_TABLES, ODD_ITEMS, priced, some_prices, wrong_prices

EXAMPLES = """
>>> from runcolumns.runs import count_runs
>>> from runcolumns.seams import Seamed, best_seams, least_seams, put_together_best
>>> from runcolumns.tables import Table
>>> pieces = [Table([(0, 0), (1, 0)]), Table([(2, 2), (1, 0)]), Table([(0, 0)])]
>>> [least_seams(pieces, (1, 1)), best_seams(pieces, (1, 1)).shows(pieces, (1, 1)), count_runs(put_together_best(pieces, (1, 1))), least_seams(pieces[:1], (1, 1))]
[0, True, 5, 0]
>>> [Seamed([(0, False)], {((0,), None): 0, ((), (1, 0)): 0, ((), (0, 0)): 0}).shows(pieces[:1], (1, 1)), Seamed([(0, False)], {((0,), None): 0}).shows(pieces[:1], (1, 1))]
[True, False]
"""

PIECES = [Table([(0, 0), (1, 0)]), Table([(2, 2), (1, 0)]), Table([(0, 0)])]
SIX = [
    Table([(0, 1), (2, 3)]), Table([(1, 1), (4, 3)]), Table([(5, 1), (2, 6)]), Table([(0, 0), (6, 3)]), Table([(2, 3)]),
    Table([(5, 5)]),
]
PAIR = [Table([(0,), (1,)]), Table([(1,)])]


def some_pieces(many=30, most=4, seed=1):
    """Pieces of all sorts: one, equal ones, ones of one row, ones that begin as they end."""
    found = [
        [Table([(3,)])], [Table([(0, 1), (1, 0), (0, 0)])], [Table([(0, 0)])] * 4, [Table([(0, 1), (5, 1)])] * 3,
        PIECES, PAIR, [Table([(0, 0), (1, 1), (0, 0)]), Table([(1, 1), (0, 0), (1, 1)])], SIX[:4],
        [Table([(at % 7,) for at in range(10)])], [Table([(at,)]) for at in (5, 1, 3)],
    ]
    chance = random.Random(seed)
    while len(found) < many:
        width, top = chance.randint(1, 3), chance.choice((1, 2, 6))
        pieces = [
            Table([tuple(chance.randint(0, top) for _ in range(width)) for _ in range(chance.randint(1, 3))])
            for _ in range(chance.randint(1, most))
        ]
        if sum(map(len, pieces)) <= 10:
            found.append(pieces)
    return found


ALL = some_pieces()


def laid(pieces, plan):
    """The rows of the pieces, as they are planned, one piece after the other."""
    return [pieces[index].rows[::-1] if turned else pieces[index].rows for index, turned in plan]


def all_plans(pieces):
    many = len(pieces)
    return [
        list(zip(order, turns)) for order in itertools.permutations(range(many))
        for turns in itertools.product((False, True), repeat=many)
    ]


def seams_cost(pieces, plan, prices):
    parts = laid(pieces, plan)
    return sum(priced(one[-1], other[0], prices) for one, other in zip(parts, parts[1:]))


def least_cost(pieces, prices):
    return min(seams_cost(pieces, plan, prices) for plan in all_plans(pieces))


def proves(pieces, prices, plan, floors):
    """Whether a plan and floors are as in [25], told from its words."""
    if floors.get((tuple(range(len(pieces))), None)) != seams_cost(pieces, plan, prices):
        return False
    for (remaining, last), floor in floors.items():
        if not remaining and floor > 0:
            return False
        for index in remaining:
            for rows in (pieces[index].rows, pieces[index].rows[::-1]):
                after = tuple(other for other in remaining if other != index), rows[-1]
                seam = 0 if last is None else priced(last, rows[0], prices)
                if floor > floors.get(after, -HUGE) + seam:
                    return False
    return True


class SeamsTest(Case):

    def test_examples(self):
        self.check_examples(EXAMPLES)

    def test_against_all_plans(self):
        for pieces in ALL:
            for prices in some_prices(pieces[0].width):
                self.check_pieces(pieces, prices, least_cost(pieces, prices))

    def check_pieces(self, pieces, prices, least):
        self.assertEqual(least_seams(pieces, prices), least)
        self.assertEqual(least_seams(tuple(pieces), prices), least)
        found = best_seams(pieces, prices)
        self.assertIsInstance(found.plan, list)
        self.assertEqual(sorted(index for index, turned in found.plan), list(range(len(pieces))))
        self.assertTrue(all(turned is True or turned is False for index, turned in found.plan))
        self.assertEqual(seams_cost(pieces, found.plan, prices), least)
        self.assertTrue(proves(pieces, prices, found.plan, found.floors))
        self.assertTrue(found.shows(pieces, prices))
        self.assertTrue(found.shows(tuple(pieces), prices))
        self.check_table(pieces, prices, least)

    def check_table(self, pieces, prices, least):
        """Check that the table has the rows of all pieces by a plan with the cheapest seams."""
        table = put_together_best(pieces, prices)
        self.assertIsInstance(table, Table)
        plans = [plan for plan in all_plans(pieces) if sum(laid(pieces, plan), ()) == table.rows]
        self.assertIn(least, [seams_cost(pieces, plan, prices) for plan in plans])
        inside = sum(cost(piece, prices) for piece in pieces) - (len(pieces) - 1) * sum(prices)
        self.assertEqual(cost(table, prices), inside + least)

    def test_six_pieces(self):
        for prices in ((1, 1), (2, 5), (0, 0)):
            self.check_pieces(SIX, prices, least_cost(SIX, prices))
        same = [Table([(0, 1)])] * 5 + [Table([(6, 6), (5, 5), (4, 4), (3, 3), (2, 2)])]
        self.assertEqual(least_seams(same, (9, 9)), 18)
        self.assertTrue(best_seams(same, (9, 9)).shows(same, (9, 9)))

    def test_one_piece(self):
        found = best_seams(PIECES[:1], (1, 1))
        self.assertEqual(found.floors, {((0,), None): 0, ((), (1, 0)): 0, ((), (0, 0)): 0})
        self.assertEqual([index for index, turned in found.plan], [0])
        self.assertEqual(least_seams(PIECES[:1], (9, 9)), 0)
        self.assertIn(put_together_best(PIECES[:1], (9, 9)), [PIECES[0], PIECES[0].turned()])
        self.assertTrue(Seamed([(0, True)], found.floors).shows(PIECES[:1], (1, 1)))

    def test_equal_pieces(self):
        pieces = [Table([(0, 1), (5, 1)])] * 3
        self.assertEqual(least_seams(pieces, (2, 7)), 0)
        self.assertEqual(best_seams(pieces, (2, 7)).plan[0][1], not best_seams(pieces, (2, 7)).plan[1][1])
        pieces = [Table([(0, 0)])] * 4
        self.assertEqual(put_together_best(pieces, (1, 1)), Table([(0, 0)] * 4))

    def test_pieces_of_one_row(self):
        pieces = [Table([(at,)]) for at in (5, 1, 3)]
        floors = best_seams(pieces, (4,)).floors
        for plan in all_plans(pieces):
            self.assertTrue(Seamed(plan, floors).shows(pieces, (4,)))
        self.assertEqual(least_seams(pieces, (4,)), 8)


class SeamedTest(Case):

    def test_all_plans_are_judged(self):
        for pieces in [pieces for pieces in ALL if len(pieces) <= 3]:
            for prices in some_prices(pieces[0].width)[-2:]:
                floors, least = best_seams(pieces, prices).floors, least_cost(pieces, prices)
                for plan in all_plans(pieces):
                    right = seams_cost(pieces, plan, prices) == least
                    self.assertEqual(Seamed(plan, floors).shows(pieces, prices), right)

    def test_only_right_plans(self):
        floors = best_seams(PIECES, (0, 0)).floors
        plan = [(2, False), (0, False), (1, True)]
        self.assertTrue(Seamed(plan, floors).shows(PIECES, (0, 0)))
        wrong = [[], plan[:2], plan + plan[:1], plan[:2] + plan[:1], plan[:2] + [(3, False)], plan[:2] + [(-1, False)]]
        wrong += [plan[:2] + [(HUGE, True)], plan[:2] + [(1, 1)], plan[:2] + [(1, 0)], plan[:2] + [(True, True)]]
        wrong += [plan[:2] + [(1,)], plan[:2] + [(1, True, 0)], plan[:2] + [1], [(2, 0), (0, 0), (1, 1)], plan[:2] + [(-2, True)]]
        wrong += [[(2, False), (False, False), (1, True)], plan[:2] + [()], plan[:2] + [(1, None)], plan[:2] + [(1, "")]]
        for some in wrong:
            self.assertFalse(Seamed(some, floors).shows(PIECES, (0, 0)), some)

    def test_floors_against_the_words(self):
        chance = random.Random(4)
        kinds = set()
        for pieces in ALL + [SIX]:
            for prices in some_prices(pieces[0].width)[-2:]:
                found = best_seams(pieces, prices)
                for _ in range(12):
                    floors = self.changed(chance, pieces, found.floors)
                    right = proves(pieces, prices, found.plan, floors)
                    kinds.add(right)
                    self.assertEqual(Seamed(found.plan, floors).shows(pieces, prices), right, (pieces, floors))
        self.assertEqual(kinds, {True, False})

    def changed(self, chance, pieces, floors):
        """The floors with some integers changed, and states left out or added, in any order."""
        states = list(floors)
        chance.shuffle(states)
        floors = {state: floors[state] for state in states}
        for state in states[:chance.choice((1, 1, 2))]:
            deed = chance.choice(("less", "more", "out", "in"))
            if deed == "out":
                del floors[state]
            elif deed == "in":
                remaining = tuple(at for at in range(len(pieces)) if chance.random() < 0.3)
                last = chance.choice(chance.choice(pieces).rows + (None,))
                floors[remaining, last] = chance.choice((-3, -1, 0, 0, 1, 2))
            else:
                floors[state] += chance.choice((1, 1, 2, HUGE)) * (1 if deed == "more" else -1)
        return floors

    def test_each_state_is_needed(self):
        for pieces, prices in [(PIECES, (1, 1)), (PAIR, (3,)), (SIX[:4], (2, 5))]:
            found = best_seams(pieces, prices)
            names = list(found.floors)
            for order in (names[::-1], sorted(names, key=str)):
                self.assertTrue(Seamed(found.plan, {name: found.floors[name] for name in order}).shows(pieces, prices))
            for left_out in names:
                floors = {name: found.floors[name] for name in names if name != left_out}
                self.assertFalse(Seamed(found.plan, floors).shows(pieces, prices), left_out)

    def test_integers_of_states(self):
        right = {
            ((0, 1), None): 0, ((0,), (1,)): 0, ((1,), (1,)): 0, ((1,), (0,)): 3, ((), (0,)): 0, ((), (1,)): 0,
        }
        self.assertEqual(best_seams(PAIR, (3,)).floors, right)
        plan = best_seams(PAIR, (3,)).plan
        for state, number, told in [
            (((0, 1), None), -1, False), (((0, 1), None), 1, False), (((0,), (1,)), -1, False), (((0,), (1,)), 1, False),
            (((1,), (0,)), 2, True), (((1,), (0,)), 0, True), (((1,), (0,)), -1, False), (((1,), (0,)), 4, False),
            (((), (0,)), -1, False), (((), (0,)), 1, False), (((), (1,)), HUGE, False), (((), (1,)), -HUGE, False),
            (((), None), 0, True), (((), None), -HUGE, True), (((), None), 1, False), (((1,), None), 0, True),
            (((1,), None), -2, True), (((1,), None), 1, False), (((0,), (0,)), 0, True), (((0,), (0,)), 1, False),
        ]:
            self.assertEqual(Seamed(plan, {**right, state: number}).shows(PAIR, (3,)), told, (state, number))
        self.assertFalse(Seamed(plan, {}).shows(PAIR, (3,)))

    def test_what_is_no_state(self):
        found = best_seams(PAIR, (3,))
        strange = [((2,), (0,)), ((1, 0), (0,)), ((0, 0), (0,)), ((-1,), None), ((), (7,)), ((), ()), ((), (0, 0)), ((), 0)]
        strange += [(), ((),), ((), (0,), 0), 0, None, ((0, 1),), (0, None), ("", None), ((), "0"), ((), ((0,),))]
        strange += [((True,), (0,)), ((), (False,)), ((), (None,)), ((HUGE,), None), ((), (HUGE,)), ((0, 1, 2), None)]
        for state in strange:
            floors = {name: found.floors[name] for name in found.floors if name != state}
            self.assertFalse(Seamed(found.plan, {**floors, state: -HUGE}).shows(PAIR, (3,)), state)

    def test_booleans_are_not_integers(self):
        found = best_seams(PAIR, (3,))
        for old, new in [
            (((0,), (1,)), ((False,), (1,))), (((0,), (1,)), ((0,), (True,))), (((), (0,)), ((), (False,))),
        ]:
            held = {new if state == old else state: found.floors[state] for state in found.floors}
            self.assertEqual(held, found.floors)
            self.assertFalse(Seamed(found.plan, held).shows(PAIR, (3,)))
        for state in found.floors:
            if not found.floors[state]:
                self.assertFalse(Seamed(found.plan, {**found.floors, state: False}).shows(PAIR, (3,)))
        self.assertFalse(Seamed([(int(at), int(turned)) for at, turned in found.plan], found.floors).shows(PAIR, (3,)))
        self.assertFalse(Seamed([(bool(at), turned) for at, turned in found.plan], found.floors).shows(PAIR, (3,)))

    def test_the_prices_count(self):
        found = best_seams(SIX[:3], (2, 5))
        self.assertTrue(found.shows(SIX[:3], (2, 5)))
        self.assertFalse(found.shows(SIX[:3], (5, 2)))
        self.assertFalse(found.shows(SIX[:2], (2, 5)))
        self.assertFalse(found.shows(SIX[:4], (2, 5)))

    def test_current_attributes_are_judged(self):
        found = best_seams(PIECES, (1, 1))
        found.plan.pop()
        self.assertFalse(found.shows(PIECES, (1, 1)))
        found = best_seams(PIECES, (1, 1))
        found.floors[((0, 1, 2), None)] = 1
        self.assertFalse(found.shows(PIECES, (1, 1)))
        found.floors[((0, 1, 2), None)] = 0
        self.assertTrue(found.shows(PIECES, (1, 1)))

    def test_copies(self):
        plan, floors = [(0, False)], {((0,), None): 0}
        found = Seamed(plan, floors)
        plan.clear()
        floors.clear()
        self.assertEqual((found.plan, found.floors), ([(0, False)], {((0,), None): 0}))
        pieces = list(PIECES)
        held = best_seams(pieces, (1, 1))
        pieces.clear()
        self.assertTrue(held.shows(PIECES, (1, 1)))
        best_seams(PIECES, (1, 1)).floors.clear()
        best_seams(PIECES, (1, 1)).plan.clear()
        self.assertTrue(best_seams(PIECES, (1, 1)).shows(PIECES, (1, 1)))

    def test_equal(self):
        self.check_equality(
            lambda: Seamed([(0, False)], {}), lambda: Seamed([(0, True)], {}), lambda: Seamed([], {}),
            lambda: Seamed([(0, False)], {((0,), None): 0}))
        self.assertEqual(best_seams(PIECES, (1, 1)), best_seams(PIECES, (1, 1)))


class SeamsErrorsTest(Case):

    def calls(self):
        return best_seams, least_seams, put_together_best, Seamed([], {}).shows

    def test_wrong_arguments(self):
        one = Table([(0, 1)])
        wrong = NO_LISTINGS + [[], (), [one] * 7, (one,) * 7, [[]], [[one]]]
        wrong += [[one] * at + [item] + [one] for at in range(3) for item in NO_TABLES + ODD_ITEMS]
        wrong += [(one, item) for item in (None, Table([(0,)]), Table([(0, 1, 2)]), one.rows)]
        wrong = [pieces for pieces in wrong if not isinstance(pieces, (list, tuple)) or len(pieces) != 1 or pieces[0] != one]
        for right in ([one], (one,) * 6, PIECES, tuple(SIX)):
            for call in self.calls():
                self.check_arguments(call, (right, BadPieces, wrong), ((9, 0), BadPrices, wrong_prices(2)))

    def test_which_piece_is_wrong(self):
        one, other = Table([(0, 1)] * 10), Table([(0,)])
        cases = [([], None), ((), None), ([one] * 7, None), (None, None), ({0: one}, None), (one, None), ("", None)]
        cases += [([None], 0), ([None, None], 0), ([one, None], 1), ([one, other], 1), ([other, one], 1), ([one, one, 0], 2)]
        cases += [((one, other, None), 1), ([one] * 5 + [other], 5), ([one] * 5 + [one.rows], 5), ([other, other, one], 2)]
        for pieces, index in cases:
            for call in self.calls():
                self.assertEqual(self.refused(BadPieces, call, pieces, None).index, index)

    def test_too_large(self):
        for pieces in ([Table([(0, 1)] * 10), Table([(0, 1)])], [Table([(0, 1)] * 2)] * 6, [Table([(0, 1)] * 6)] * 2):
            for call in self.calls():
                for prices in [(1, 1)] + wrong_prices(2)[:20]:
                    self.refused(TooLarge, call, pieces, prices)
        for pieces in ([Table([(0, 1)] * 10)], [Table([(0, 1)] * 2)] * 5):
            self.assertEqual(least_seams(pieces, (1, 1)), 0)


if __name__ == "__main__":
    unittest.main()
