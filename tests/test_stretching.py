"""[17] Stretches."""

import itertools
import random
import unittest

from runcolumns.errors import BadColumn, BadSet, BadSets, BadSizes, BadTable, TooLarge
from runcolumns.stretching import (
    Made, Reached, count_made, made_of, most_stretches, most_without, reach, set_of, stretches, value_stretches,
)
from runcolumns.tables import Table
from tests.cases import Case
from tests.samples import (
    HUGE, NO_LISTINGS, NO_NUMBERS, NO_TABLES, ODD_ITEMS, some_tables, wrong_columns, wrong_numbers,
)

EXAMPLES = """
>>> from runcolumns.stretching import Made, Reached, count_made, made_of, most_stretches, most_without, reach, set_of, stretches, value_stretches
>>> from runcolumns.tables import Table
>>> [stretches(6, (0, 1, 3)), set_of(6, [(0, 2), (4, 6)]), value_stretches(Table([(0, 0), (0, 1), (1, 1), (1, 0)]), 1), most_without(5, 2)]
[[(0, 2), (3, 4)], (0, 1, 4, 5), {0: [(0, 1), (3, 4)], 1: [(1, 3)]}, 3]
>>> [[most_stretches(word, many, 2, 2) for word in ("and", "or") for many in (4, 5, 7)], reach("and", 5, 2, 2).shows("and", 5, 2, 2), Reached((0, 2), (0, 2)).shows("or", 5, 2, 2), count_made(3, [(0,)]), made_of(4, [(0, 1), (1, 2)]).shows(4, [(0, 1), (1, 2)]), Made({(0,): ("set", 0)}).shows(2, [(0,)])]
[[2, 3, 3, 2, 3, 4], True, False, 4, True, False]
"""


def all_sets(many):
    """All sets of so many rows, by length and then as tuples."""
    return [some for length in range(many + 1) for some in itertools.combinations(range(many), length)]


def count(some):
    """The number of stretches of a set of rows."""
    return len([index for index in some if index - 1 not in some])


def join(word, one, other):
    return set(one) & set(other) if word == "and" else set(one) | set(other)


def most_by_numbers(word, many):
    """The greatest numbers of stretches for all pairs of numbers, by trying all pairs of sets."""
    counts = {sum(1 << index for index in some): count(some) for some in all_sets(many)}
    found = {}
    for one, first in counts.items():
        for other, last in counts.items():
            number = counts[one & other if word == "and" else one | other]
            if number > found.get((first, last), -1):
                found[(first, last)] = number
    return found


def made_slowly(many, sets):
    """All sets that can be made, by combining sets for as long as there are new ones."""
    found = {frozenset(some) for some in sets}
    while True:
        more = {frozenset(range(many)) - one for one in found}
        more |= {one & other for one in found for other in found} | {one | other for one in found for other in found}
        if more <= found:
            return sorted([tuple(sorted(some)) for some in found], key=lambda some: (len(some), some))
        found |= more


def worth(many, sets, word):
    """The set of rows with a word."""
    if word[0] == "set":
        return set(sets[word[1]])
    if word[0] == "not":
        return set(range(many)) - worth(many, sets, word[1])
    return join(word[0], worth(many, sets, word[1]), worth(many, sets, word[2]))


def some_sets(count=40, seed=1):
    """Numbers of rows with one to four sets."""
    found = [
        (1, [()]), (1, [(0,)]), (6, [()]), (6, [(0, 1, 2, 3, 4, 5)] * 4), (2, [(0,)]), (3, [(0,)]), (4, [(0, 1), (1, 2)]),
        (6, [(0, 1, 2), (0, 3), (1, 3, 4), (2, 4)]), (6, [(5,), (4,), (3,), (2,)]), (6, [(0, 2, 4), (0, 1)]),
    ]
    chance = random.Random(seed)
    for _ in range(count):
        many = chance.randint(1, 6)
        found.append((many, [
            tuple(sorted(chance.sample(range(many), chance.randint(0, many)))) for _ in range(chance.randint(1, 4))]))
    return found


class StretchesTest(Case):

    def test_examples(self):
        self.check_examples(EXAMPLES)

    def test_all_small_sets(self):
        for many in range(1, 7):
            for some in all_sets(many):
                self.check_stretches(many, some)

    def check_stretches(self, many, some):
        pairs = itertools.combinations(range(many + 1), 2)
        expected = [(first, past) for first, past in pairs
                    if set(range(first, past)) <= set(some) and first - 1 not in some and past not in some]
        self.assertEqual(stretches(many, some), expected)
        self.assertEqual(len(expected), count(some))
        self.assertEqual(set_of(many, expected), some)
        self.assertEqual(set_of(many, tuple(expected)), some)

    def test_some_sets_of_ten(self):
        for some in random.Random(1).sample(all_sets(10), 200) + [(), tuple(range(10)), (9,), (0, 2, 4, 6, 8)]:
            self.check_stretches(10, some)
        self.assertEqual((stretches(10, ()), set_of(10, [])), ([], ()))
        self.assertEqual(stretches(10, (0, 1, 8, 9)), [(0, 2), (8, 10)])

    def test_values_of_columns(self):
        for table in some_tables():
            for c in range(table.width):
                found = value_stretches(table, c)
                self.assertEqual(list(found), sorted({row[c] for row in table.rows}))
                for value in found:
                    some = tuple(at for at in range(len(table)) if table.rows[at][c] == value)
                    self.assertEqual(found[value], stretches(10, some))


class ReachedTest(Case):

    def test_greatest_numbers_against_all_sets(self):
        for many in range(1, 9):
            for word in ("and", "or"):
                expected = most_by_numbers(word, many)
                numbers = range((many + 1) // 2 + 1)
                self.assertEqual(sorted(expected), list(itertools.product(numbers, numbers)))
                for first, last in expected:
                    self.check_reach(word, many, first, last, expected[(first, last)])

    def test_ten_rows(self):
        for word in ("and", "or"):
            expected = most_by_numbers(word, 10)
            for first, last in itertools.product(range(6), range(6)):
                self.check_reach(word, 10, first, last, expected[(first, last)])

    def check_reach(self, word, many, first, last, most):
        self.assertEqual(most_stretches(word, many, first, last), most, (word, many, first, last))
        found = reach(word, many, first, last)
        self.assertEqual((count(found.one), count(found.other)), (first, last))
        self.assertEqual(count(join(word, found.one, found.other)), most)
        self.assertTrue(found.one in all_sets(many) and found.other in all_sets(many))
        self.assertTrue(found.shows(word, many, first, last))

    def test_none(self):
        for many in range(1, 11):
            for number in range((many + 1) // 2 + 1):
                self.assertEqual(most_stretches("and", many, number, 0), 0)
                self.assertEqual(most_stretches("or", many, 0, number), number)

    def test_without_against_all_sets(self):
        for many in range(1, 11):
            for first in range((many + 1) // 2 + 1):
                rests = [set(range(many)) - set(some) for some in all_sets(many) if count(some) == first]
                self.assertEqual(most_without(many, first), max(count(rest) for rest in rests))

    def test_all_pairs_are_judged(self):
        for many, (word, first, last) in itertools.product(
                (1, 3, 4), [("and", 1, 1), ("or", 1, 1), ("and", 0, 1), ("or", 1, 0), ("or", 2, 2), ("and", 1, 2)]):
            if max(first, last) > (many + 1) // 2:
                continue
            most = most_by_numbers(word, many)[(first, last)]
            for one, other in itertools.product(all_sets(many), repeat=2):
                right = (count(one), count(other)) == (first, last) and count(join(word, one, other)) == most
                self.assertEqual(Reached(one, other).shows(word, many, first, last), right)
                self.assertEqual(Reached(list(one), list(other)).shows(word, many, first, last), right)

    def test_only_the_right_sets(self):
        self.assertTrue(Reached((0, 2, 3), (0, 1, 3)).shows("and", 4, 2, 2))
        for wrong in [(), (0,), (0, 2, 4), (2, 0), (0, 2, 2), (0, 3, 2), (-1, 1), (HUGE, 0), (0, HUGE), (False, 2), (0, 4)]:
            self.assertFalse(Reached(wrong, (0, 1, 3)).shows("and", 4, 2, 2), wrong)
            self.assertFalse(Reached((0, 1, 3), wrong).shows("and", 4, 2, 2), wrong)
        self.assertTrue(Reached((0, 2), (0, 2)).shows("and", 4, 2, 2))
        for wrong in [(2, 0), (0, 0, 2), (False, 2), (0, 2, 2), (2, 0, 2)]:
            self.assertFalse(Reached(wrong, (0, 2)).shows("and", 4, 2, 2), wrong)
            self.assertFalse(Reached((0, 2), wrong).shows("and", 4, 2, 2), wrong)
            self.assertFalse(Reached(wrong, wrong).shows("and", 4, 2, 2), wrong)
        for wrong in [(0, 4), (-1, 1), (0, HUGE)]:
            self.assertFalse(Reached(wrong, wrong).shows("and", 4, 2, 2), wrong)
        self.assertFalse(Reached((0,), (4,)).shows("or", 4, 1, 1))
        self.assertFalse(Reached((-2,), (3,)).shows("or", 4, 1, 1))
        self.assertFalse(Reached((0, 2, 3), (0, 1, 3)).shows("and", 5, 2, 2))
        self.assertFalse(Reached((0, 2, 3), (0, 1, 3)).shows("and", 4, 2, 1))
        self.assertFalse(Reached((0, 2, 3), (0, 1, 3)).shows("or", 4, 2, 2))
        self.assertTrue(Reached((), ()).shows("or", 4, 0, 0))

    def test_current_sets_are_judged(self):
        found = reach("or", 7, 2, 2)
        found.one, found.other = [0, 2], [4, 6]
        self.assertTrue(found.shows("or", 7, 2, 2))
        found.other = [2, 4]
        self.assertFalse(found.shows("or", 7, 2, 2))


class MadeTest(Case):

    def test_against_all_that_can_be_combined(self):
        for many, sets in some_sets():
            found, expected = made_of(many, sets), made_slowly(many, sets)
            self.assertEqual(list(found.words), expected)
            self.assertEqual((count_made(many, sets), count_made(many, tuple(sets))), (len(expected), len(expected)))
            self.assertTrue(found.shows(many, sets))
            for some, word in found.words.items():
                self.assertEqual(worth(many, sets, word), set(some))

    def test_how_many(self):
        self.assertEqual([count_made(6, [()]), count_made(6, [(0, 1, 2, 3, 4, 5)] * 4), count_made(1, [(0,)])], [2, 2, 2])
        self.assertEqual(count_made(6, [(0, 1, 2), (0, 3), (1, 3, 4), (2, 4)]), 64)
        self.assertEqual(list(made_of(3, [(0,)]).words), [(), (0,), (1, 2), (0, 1, 2)])

    def right(self):
        """Words for all sets of two rows, made of the first row and of none."""
        one, none = ("set", 0), ("set", 1)
        return {(): none, (0,): ("or", none, one), (1,): ("not", ("and", one, one)), (0, 1): ("not", none)}

    def check_word(self, some, word, right):
        words = {**self.right(), some: word}
        self.assertEqual(Made(words).shows(2, [(0,), ()]), right, word)
        self.assertEqual(Made(dict(reversed(words.items()))).shows(2, ((0,), ())), right, word)

    def test_other_words_and_orders(self):
        one, none = ("set", 0), ("set", 1)
        for some, word in self.right().items():
            for other in self.right():
                self.check_word(other, word, other == some)
        for word in [one, ("and", one, one), ("not", ("not", one)), ("or", one, none), ("and", ("not", none), one)]:
            self.check_word((0,), word, True)
            self.check_word((1,), word, False)
            self.check_word((1,), ("not", word), True)
            self.check_word((), ("and", word, ("not", word)), True)
            self.check_word((0, 1), ("or", word, ("not", word)), True)

    def test_what_is_no_word(self):
        one = ("set", 0)
        wrong = [(), (0,), ("set",), ("set", 2), ("set", -1), ("set", True), ("set", False), ("set", "0"), ("set", None)]
        wrong += [("set", HUGE), ("set", 0, 0), ("not",), ("not", one, one), ("and", one), ("or", one), ("and", one, one, one)]
        wrong += [("or", one, one, one), ("xor", one, one), ("OR", one, one), ("AND", one, one), ("", one), (b"or", one, one)]
        wrong += [("set", one), ("not", ("not", ())), ("or", one, ("set", 2)), ("and", ("set", True), one), ("or", one, 0)]
        wrong += [(one, "or", one), (one,), (("set",), 0), (0, 0), (None, one), ("is", 0, (0,)), ("or", ["set", 0], one)]
        wrong += [("or", one, item) for item in ODD_ITEMS] + [(item, one) for item in ODD_ITEMS]
        wrong += [(item, one, one) for item in ODD_ITEMS] + [("set", item) for item in ODD_ITEMS]
        for word in wrong:
            for some in self.right():
                self.check_word(some, word, False)

    def test_deep_words(self):
        word = ("set", 0)
        for _ in range(50000):
            word = ("not", word)
        self.check_word((0,), word, True)
        self.check_word((1,), ("not", word), True)
        self.check_word((1,), word, False)
        self.check_word((0,), ("not", ("not", ("or", word, ("and", word, word)))), True)

    def test_the_whole_dict_is_judged(self):
        right, sets = self.right(), [(0,), ()]
        self.assertTrue(Made(right).shows(2, sets))
        for some in right:
            self.assertFalse(Made({other: right[other] for other in right if other != some}).shows(2, sets))
        for some in [(2,), (1, 0), (0, 0), (0, 1, 2), (-1,), (HUGE,)]:
            for word in right.values():
                self.assertFalse(Made({**right, some: word}).shows(2, sets))
        flagged = {tuple(bool(index) for index in some): word for some, word in right.items()}
        self.assertFalse(Made(flagged).shows(2, sets))
        self.assertFalse(Made(right).shows(2, [(1,), ()]))
        self.assertFalse(Made(right).shows(3, sets))
        self.assertFalse(Made(right).shows(2, [(0,)]))
        self.assertTrue(Made(right).shows(2, [(0,), (), (1,)]))
        self.assertFalse(Made({}).shows(2, sets))

    def test_sets_that_cannot_be_made(self):
        words = {**made_of(3, [(0,)]).words, (1,): ("set", 0)}
        self.assertFalse(Made(words).shows(3, [(0,)]))
        self.assertFalse(Made({(0,): ("set", 0), (1, 2): ("not", ("set", 0))}).shows(3, [(0,)]))

    def test_current_words_are_judged(self):
        found = made_of(3, [(0,)])
        found.words[(0,)] = ("not", ("set", 0))
        self.assertFalse(found.shows(3, [(0,)]))
        found.words[(0,)] = ("set", 0)
        self.assertTrue(found.shows(3, [(0,)]))


class StretchingErrorsTest(Case):

    def test_wrong_sets(self):
        for many in (1, 2, 10):
            right = tuple(range(0, many, 2))
            numbers = (many, BadSizes, wrong_numbers(1, 10))
            self.check_arguments(stretches, numbers, (right, BadSet, wrong_columns(many)))
            self.check_arguments(set_of, numbers, ([(0, 1)], BadSet, self.wrong_stretches(many)))
        for wrong in [(0,), None]:
            self.refused(BadSizes, stretches, 11, wrong)

    def wrong_stretches(self, many):
        wrong = [[(0, many + 1)], [(many, many + 1)], [(0, 0)], [(1, 0)], [(-1, 1)], [(0, HUGE)], [(0,)], [(0, 1, 1)], [()]]
        wrong += [[0, 1], [[0, 1]], [(0, 1), [0, 1]], [(0, 1), (0, 1)], [(0, 1), (1, 2)], [(0, 2), (1, 3)], [(2, 3), (0, 1)]]
        wrong += [[(False, 1)], [(0, True)], [(0, "1")], [{0: 1, 1: 1}], [{0, 1}], ["01"], [b"01"], [(0, 1), None]]
        wrong += [[item] for item in ODD_ITEMS] + [[(item, 1)] for item in ODD_ITEMS] + [[(0, item)] for item in ODD_ITEMS]
        return NO_LISTINGS + wrong + [tuple(pieces) for pieces in wrong]

    def test_wrong_columns(self):
        for table in (Table([(0, 1)]), Table([(0, 1, 2, 3)] * 10)):
            self.check_arguments(
                value_stretches, (table, BadTable, NO_TABLES), (0, BadColumn, wrong_numbers(0, table.width - 1)))

    def test_wrong_words_and_numbers(self):
        words = NO_NUMBERS + [0, 1, "AND", "not", "set", " or", "or ", "andor", b"and", ("and",), ["or"], {"or": "or"}]
        for word, many in itertools.product(("and", "or"), (1, 4, 9, 10)):
            most = (many + 1) // 2
            arguments = (
                (word, BadSet, words), (many, BadSizes, wrong_numbers(1, 10)), (most, BadSizes, wrong_numbers(0, most)),
                (0, BadSizes, wrong_numbers(0, most)))
            for call in (most_stretches, reach, Reached((), ()).shows):
                self.check_arguments(call, *arguments)
            self.check_arguments(most_without, arguments[1], arguments[2])

    def test_wrong_lists_of_sets(self):
        for many in (1, 6):
            for call in (made_of, count_made, Made({}).shows):
                no_lists = NO_LISTINGS + [[], (), [(0,)] * 5, [None] * 5]
                for sets in ([()], ((0,),) * 4):
                    self.check_arguments(call, (many, BadSizes, wrong_numbers(1, 10)), (sets, BadSets, no_lists))
                for wrong in no_lists:
                    self.assertIsNone(self.refused(BadSets, call, many, wrong).index)
                    self.assertIsNone(self.refused(BadSets, call, 7, wrong).index)
                for wrong in wrong_columns(many):
                    for at in range(4):
                        sets = [(0,)] * at + [wrong] + [None] * (3 - at)
                        self.assertEqual(self.refused(BadSets, call, many, sets).index, at)
                        self.assertEqual(self.refused(BadSets, call, many, tuple(sets)).index, at)

    def test_too_large(self):
        for call in (made_of, count_made, Made({}).shows):
            for many in (7, 8, 9, 10):
                self.refused(TooLarge, call, many, [(0,), (many - 1,)])
                self.assertEqual(self.refused(BadSets, call, many, [(0,), (many,)]).index, 1)
            self.refused(BadSizes, call, 11, [(0,)])

    def test_copies(self):
        one, other, words = [0], [1], {(): ("set", 0)}
        reached, made = Reached(one, other), Made(words)
        for held in (one, other, words):
            held.clear()
        self.assertEqual((reached.one, reached.other, made.words), ((0,), (1,), {(): ("set", 0)}))
        table = Table([(0, 0), (1, 0)])
        value_stretches(table, 1)[0].clear()
        value_stretches(table, 1).clear()
        stretches(3, (0,)).clear()
        made_of(3, [(0,)]).words.clear()
        self.assertEqual((value_stretches(table, 1), stretches(3, (0,))), ({0: [(0, 2)]}, [(0, 1)]))
        self.assertEqual(len(made_of(3, [(0,)]).words), 4)

    def test_equal(self):
        self.check_equality(
            lambda: Reached((0,), (1,)), lambda: Reached((1,), (0,)), lambda: Reached([0], [0]), lambda: Made({}),
            lambda: Made({(): ("set", 0)}), lambda: Made({(): ("set", 1)}),
        )
        self.assertEqual(reach("or", 7, 2, 1), reach("or", 7, 2, 1))
        self.assertEqual(made_of(4, [(0, 1), (1, 2)]), made_of(4, ((0, 1), (1, 2))))


if __name__ == "__main__":
    unittest.main()
