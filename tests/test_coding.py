"""[15] Codes."""

import itertools
import random
import unittest

from runcolumns.coding import (
    Code, alike, asked_stretches, best_code, code_index, count_codes, in_one, least_stretches, nth_code,
)
from runcolumns.errors import BadAsks, BadIndex, BadOrder, BadSizes
from tests.cases import Case
from tests.samples import HUGE, NO_LISTINGS, ODD_ITEMS, wrong_numbers, wrong_orders

EXAMPLES = """
>>> from runcolumns.coding import Code, alike, asked_stretches, best_code, code_index, count_codes, in_one, least_stretches, nth_code
>>> asks = [((0, 2), 1), ((1, 2, 3), 2)]
>>> [least_stretches(4, asks), asked_stretches(4, asks, (0, 1, 2, 3)), count_codes(4, asks), nth_code(4, asks, 1), code_index(4, asks, (3, 1, 2, 0)), alike(4, asks)]
[3, 4, 4, (0, 2, 3, 1), 3, [(0,), (1, 3), (2,)]]
>>> [in_one(4, asks), in_one(3, [((0, 1), 1), ((1, 2), 1), ((0, 2), 1)]), best_code(4, asks).gains[((1, 3), 2)], best_code(4, asks).shows(4, asks)]
[True, False, 4, True]
"""

ASKS = [((0, 2), 1), ((1, 2, 3), 2)]
ASK = ((0,), 1)


def some_asks(many=60, most_values=5, seed=1):
    """Numbers of values with asks for them, among them none and six, and asks that are alike."""
    found = [
        (1, []), (1, [((0,), 9)]), (1, [((0,), 1)] * 6), (2, []), (2, [((0, 1), 3), ((0,), 1)]), (4, ASKS), (4, []),
        (3, [((0, 1), 1), ((1, 2), 1), ((0, 2), 1)]), (4, [((0, 3), 2)] * 6), (5, [((0, 1, 2, 3, 4), 9)] * 2),
        (4, [((0, 1), 9), ((1, 2), 9), ((2, 3), 9), ((0, 3), 9), ((0, 2), 8), ((1, 3), 8)]),
        (5, [((0, 4), 1), ((1, 4), 1), ((2, 4), 1), ((3, 4), 1)]), (3, [((1,), 5), ((0, 1, 2), 2)]),
    ]
    chance = random.Random(seed)
    for _ in range(many):
        values, asks = chance.randint(1, most_values), []
        for _ in range(chance.randint(0, 6)):
            asked = sorted(chance.sample(range(values), chance.randint(1, values)))
            asks.append((tuple(asked), chance.randint(1, chance.choice((1, 9)))))
        found.append((values, asks))
    return found


def stretches_cost(asks, order):
    """What the stretches of all asks cost, by cutting the code at all values that are not asked for."""
    cost = 0
    for asked, price in asks:
        held = [value in asked for value in order]
        cost += price * len([within for within, _ in itertools.groupby(held) if within])
    return cost


def gained(asks, way):
    return sum(price for one, other in zip(way, way[1:]) for asked, price in asks if {one, other} <= set(asked))


def all_best(values, asks):
    codes = list(itertools.permutations(range(values)))
    least = min(stretches_cost(asks, code) for code in codes)
    return [code for code in codes if stretches_cost(asks, code) == least]


def all_gains(values, asks):
    """The whole dict of a Code, by trying all ways."""
    gains = {}
    for many in range(values):
        for left in itertools.combinations(range(values), many):
            for value in set(range(values)) - set(left):
                gains[(left, value)] = max(gained(asks, (value,) + way) for way in itertools.permutations(left))
    return gains


SEVEN = [((0, 3, 6), 2), ((1, 2), 9), ((2, 3, 4), 5), ((0, 6), 1), ((4, 5), 5), ((1, 5, 6), 3)]


class CodesTest(Case):

    def test_examples(self):
        self.check_examples(EXAMPLES)

    def test_against_all_codes(self):
        for values, asks in some_asks():
            self.check_codes(values, asks, all_best(values, asks))
            for code in itertools.permutations(range(values)):
                self.assertEqual(asked_stretches(values, asks, code), stretches_cost(asks, code))

    def check_codes(self, values, asks, best):
        least = stretches_cost(asks, best[0])
        self.assertEqual(least_stretches(values, asks), least)
        self.assertEqual(in_one(values, asks), all(stretches_cost([ask], best[0]) == ask[1] for ask in asks))
        self.assertEqual(count_codes(values, asks), len(best))
        self.assertIn(best_code(values, asks).order, best)
        for index in range(0, len(best), 1 + len(best) // 30):
            self.assertEqual(nth_code(values, asks, index), best[index])
            self.assertEqual(code_index(values, asks, best[index]), index)
        self.refused(BadIndex, nth_code, values, asks, len(best))
        self.assertEqual(least_stretches(values, tuple(asks)), least)

    def test_every_index(self):
        for values, asks in some_asks(20, seed=2)[:30]:
            best = all_best(values, asks)
            self.assertEqual([nth_code(values, asks, index) for index in range(len(best))], best)
            self.assertEqual([code_index(values, asks, code) for code in best], list(range(len(best))))
            for code in set(itertools.permutations(range(values))) - set(best):
                self.refused(BadOrder, code_index, values, asks, code)

    def test_seven_values(self):
        for asks in (SEVEN, SEVEN[:3], [((0, 1, 2, 3, 4, 5, 6), 1)], [((3, 4), 1)] * 6):
            self.check_codes(7, asks, all_best(7, asks))
            self.assertTrue(best_code(7, asks).shows(7, asks))
        self.assertEqual((count_codes(7, []), least_stretches(7, [])), (5040, 0))
        self.assertEqual((nth_code(7, (), 5039), code_index(7, (), (6, 5, 4, 3, 2, 1, 0))), ((6, 5, 4, 3, 2, 1, 0), 5039))

    def test_in_one(self):
        self.assertTrue(in_one(1, []))
        self.assertTrue(in_one(7, []))
        self.assertTrue(in_one(7, [((at, at + 1), 9) for at in range(6)]))
        self.assertFalse(in_one(4, [((0, 1), 1), ((0, 2), 1), ((0, 3), 1)]))
        for values, asks in some_asks(40, seed=3):
            codes = itertools.permutations(range(values))
            found = any(all(stretches_cost([ask], code) == ask[1] for ask in asks) for code in codes)
            self.assertEqual(in_one(values, asks), found)

    def test_gains_against_all_ways(self):
        for values, asks in some_asks():
            found = best_code(values, asks)
            self.assertEqual(found.gains, all_gains(values, asks))
            self.assertIsInstance(found.order, tuple)
            self.assertTrue(found.shows(values, asks))
        found = best_code(6, SEVEN[1:3])
        self.assertEqual(found.gains, all_gains(6, SEVEN[1:3]))

    def test_alike(self):
        for values, asks in some_asks() + [(7, SEVEN), (7, SEVEN[:2]), (7, []), (7, [((0, 2, 4, 6), 1)])]:
            families = {}
            for value in range(values):
                families.setdefault(tuple(value in asked for asked, _ in asks), []).append(value)
            self.assertEqual(alike(values, asks), sorted(tuple(family) for family in families.values()))
        self.assertEqual(alike(7, [((0, 2, 4, 6), 1)]), [(0, 2, 4, 6), (1, 3, 5)])
        self.assertEqual(alike(7, []), [(0, 1, 2, 3, 4, 5, 6)])


class CodeTest(Case):

    def test_all_codes_are_judged(self):
        for values, asks in [(values, asks) for values, asks in some_asks() if values <= 4]:
            gains, best = all_gains(values, asks), all_best(values, asks)
            for code in itertools.permutations(range(values)):
                self.assertEqual(Code(code, gains).shows(values, asks), code in best)
                self.assertEqual(Code(list(code), gains).shows(values, tuple(asks)), code in best)

    def test_the_whole_dict_is_judged(self):
        strangers = [((), 4), ((0,), 0), ((2, 1), 0), ((1, 1), 0), ((4,), 0), ((0, 1, 2, 3), 0), (0, 0), (), ((), (0,))]
        for asks in (ASKS, [], [((0, 1, 2, 3), 1)]):
            order = all_best(4, asks)[-1]
            self.check_dict(lambda gains: Code(order, gains).shows(4, asks), all_gains(4, asks), strangers)
        self.check_dict(lambda gains: Code((0,), gains).shows(1, [ASK]), {((), 0): 0}, [((), 1), ((0,), 0)])

    def test_wrong_orders(self):
        gains, order = all_gains(4, ASKS), all_best(4, ASKS)[0]
        self.assertTrue(Code(order, gains).shows(4, ASKS))
        self.assertFalse(Code(order, gains).shows(4, ASKS[:1]))
        self.assertFalse(Code(order, gains).shows(3, ASKS[:1]))
        wrong = [(), order[:3], order + (0,), order + (4,), order[:3] + (4,), order[:3] + (HUGE,), order[:3] + (-1,)]
        wrong += [order[:3] + order[:1], (0,) * 4, tuple({0: False, 1: True}.get(value, value) for value in order)]
        for codes in wrong:
            self.assertFalse(Code(codes, gains).shows(4, ASKS), codes)
        self.assertFalse(Code((0, 1), {((), False): 0, ((), 1): 0, ((0,), 1): 0, ((1,), 0): 0}).shows(2, []))
        self.assertTrue(Code((0, 1), {((), 0): 0, ((), 1): 0, ((0,), 1): 0, ((1,), 0): 0}).shows(2, []))

    def test_current_attributes_are_judged(self):
        found = best_code(4, ASKS)
        found.order = [0, 1, 2, 3]
        self.assertFalse(found.shows(4, ASKS))
        found.order = list(all_best(4, ASKS)[1])
        self.assertTrue(found.shows(4, ASKS))
        found.gains.popitem()
        self.assertFalse(found.shows(4, ASKS))

    def test_copies(self):
        order, gains = [0], {((), 0): 0}
        found = Code(order, gains)
        order.clear()
        gains.clear()
        self.assertEqual((found.order, found.gains), ((0,), {((), 0): 0}))
        best_code(4, ASKS).gains.clear()
        alike(4, ASKS).clear()
        self.assertTrue(best_code(4, ASKS).shows(4, ASKS))
        self.assertEqual(len(alike(4, ASKS)), 3)
        self.assertEqual(ASKS, [((0, 2), 1), ((1, 2, 3), 2)])

    def test_equal(self):
        self.check_equality(
            lambda: Code([0, 1], {}), lambda: Code((1, 0), {}), lambda: Code((0, 1), {((), 0): 0}), lambda: Code((), {}))
        self.assertEqual(best_code(4, ASKS), best_code(4, tuple(ASKS)))


class CodingErrorsTest(Case):

    def calls(self):
        return [best_code, least_stretches, in_one, alike, count_codes, Code((), {}).shows]

    def wrong_items(self, values):
        wrong = [(), (0,), ((0,),), ((0,), 1, 1), [(0,), 1], ((), 1), ([0], 1), ((0,), 0), ((0,), 10), ((0, 0), 1)]
        wrong += [((values,), 1), ((0, values), 1), ((-1, 0), 1), ((1, 0), 1), {0: 1, 1: 2}, "01", b"01", ("0", 1), 0, 1]
        wrong += [item for item in ODD_ITEMS] + [((0,), item) for item in ODD_ITEMS] + [(item, 1) for item in ODD_ITEMS]
        return wrong + [((item,), 1) for item in ODD_ITEMS + [(), (0,)]] + [((0, item), 1) for item in ODD_ITEMS]

    def test_wrong_arguments(self):
        for values in (1, 4, 7):
            for asks in ([], (), [ASK] * 6, (ASK,) * 6):
                wrong = NO_LISTINGS + [[ASK] * 7, (ASK,) * 7, [None] * 7, [[]], ((),)]
                numbers, asked = (values, BadSizes, wrong_numbers(1, 7)), (asks, BadAsks, wrong)
                for call in self.calls():
                    self.check_arguments(call, numbers, asked)
                highest = count_codes(values, asks) - 1
                self.check_arguments(nth_code, numbers, asked, (highest, BadIndex, wrong_numbers(0, highest)))
                order = (tuple(range(values)), BadOrder, wrong_orders(values))
                self.check_arguments(asked_stretches, numbers, asked, order)
                self.check_arguments(code_index, numbers, asked, order)

    def test_index_of_the_first_wrong_ask(self):
        calls = self.calls() + [lambda *held: nth_code(*held, None), lambda *held: code_index(*held, None)]
        calls.append(lambda *held: asked_stretches(*held, None))
        for call in calls:
            for wrong in NO_LISTINGS + [[ASK] * 7, [None] * 7]:
                self.assertIsNone(self.refused(BadAsks, call, 3, wrong).index)
            for wrong in self.wrong_items(3):
                for at in (0, 2, 5):
                    asks = [ASK] * at + [wrong] + [None] * (5 - at)
                    self.assertEqual(self.refused(BadAsks, call, 3, asks).index, at, wrong)
            self.assertEqual(self.refused(BadAsks, call, 3, (ASK, wrong)).index, 1)
            self.refused(BadSizes, call, 8, [None])
            self.assertEqual(self.refused(BadAsks, call, 3, [((0, 2), 1), ((2, 3), 1)]).index, 1)

    def test_codes_that_are_not_the_best(self):
        self.refused(BadOrder, code_index, 4, ASKS, (0, 1, 2, 3))
        self.assertEqual(asked_stretches(4, ASKS, (0, 1, 2, 3)), 4)


if __name__ == "__main__":
    unittest.main()
