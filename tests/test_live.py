"""[10] Live tables."""

import random
import unittest

from runcolumns.errors import BadColumn, BadIndex, BadPrices, BadRow, BadTable, NothingDone, TooLarge
from runcolumns.live import LiveTable
from runcolumns.runs import all_runs
from runcolumns.tables import Table
from tests.cases import Case
from tests.samples import (
    NO_TABLES, ODD_OBJECTS, Rough, whole_cost, wrong_numbers, wrong_prices, wrong_rows,
)

EXAMPLES = """
>>> from runcolumns.live import LiveTable
>>> from runcolumns.tables import Table
>>> live = LiveTable(Table([(1, 0), (0, 0)]))
>>> [live.put(1, (0, 2)).rows, live.move(0, 2).rows, live.change(1, 0, 1).rows, live.take(0).rows, live.journal[-1], live.undo(), len(live), live.runs(), live.put_best((0, 3), (1, 1)).rows]
[((1, 0), (0, 2), (0, 0)), ((0, 2), (0, 0), (1, 0)), ((0, 2), (1, 0), (1, 0)), ((1, 0), (1, 0)), ('take', 0), ('take', 0), 3, [[(0, 1), (1, 2)], [(2, 1), (0, 2)]], ((0, 3), (0, 2), (1, 0), (1, 0))]
"""

START = Table([(1, 0), (0, 0), (0, 2)])


class Oops(Exception):
    """An error that leaves a trial."""


def state(live):
    """All that can be seen of a live table."""
    return live.now, live.journal, len(live), live.runs()


def done(rows, deed):
    """The rows after a deed, told from the words of [10]."""
    rows = list(rows)
    word, index = deed[:2]
    if word == "put":
        rows.insert(index, deed[2])
    elif word == "take":
        del rows[index]
    elif word == "change":
        values = list(rows[index])
        values[deed[2]] = deed[3]
        rows[index] = tuple(values)
    else:
        rows.insert(deed[2], rows.pop(index))
    return tuple(rows)


def some_deed(chance, live):
    """A deed that a live table does not refuse."""
    many, width = len(live.now), live.now.width
    word = chance.choice(("put", "take", "change", "move"))
    row = tuple(chance.randint(0, 6) for _ in range(width))
    if word == "put" and many < 10:
        return ("put", chance.randint(0, many), row)
    if word == "take" and many > 1:
        return ("take", chance.randrange(many))
    if word == "change":
        return ("change", chance.randrange(many), chance.randrange(width), chance.randint(0, 6))
    return ("move", chance.randrange(many), chance.randrange(many))


def do(live, deed):
    return getattr(live, deed[0])(*deed[1:])


class DeedsTest(Case):

    def test_examples(self):
        self.check_examples(EXAMPLES)

    def test_a_new_one(self):
        live = LiveTable(START)
        self.assertEqual(state(live), (START, [], 0, all_runs(START)))

    def test_deeds_and_undoing_against_rows(self):
        for seed in range(30):
            chance = random.Random(seed)
            width = chance.randint(1, 4)
            live = LiveTable(Table([(chance.randint(0, 6),) * width for _ in range(chance.randint(1, 10))]))
            states = [state(live)]
            for _ in range(25):
                deed = some_deed(chance, live)
                rows = done(live.now.rows, deed)
                after = do(live, deed)
                self.assertEqual((after.rows, live.now.rows), (rows, rows))
                self.assertEqual(live.journal, states[-1][1] + [deed])
                self.assertEqual((len(live), live.runs()), (len(states), all_runs(after)))
                states.append(state(live))
            while len(states) > 1:
                self.assertEqual(live.undo(), states.pop()[1][-1])
                self.assertEqual(state(live), states[-1])
            self.refused(NothingDone, live.undo)
            self.assertEqual(state(live), states[0])

    def test_changes_and_moves_that_change_nothing_are_deeds(self):
        live = LiveTable(START)
        self.assertEqual(live.change(0, 0, 1), START)
        self.assertEqual(live.move(2, 2), START)
        self.assertEqual(live.journal, [("change", 0, 0, 1), ("move", 2, 2)])
        self.assertEqual([live.undo(), live.undo()], [("move", 2, 2), ("change", 0, 0, 1)])

    def test_move(self):
        for index in range(4):
            for late in range(4):
                live = LiveTable(Table([(at,) for at in range(4)]))
                moved = live.move(index, late)
                self.assertEqual(moved[late], (index,))
                self.assertEqual([row for row in moved.rows if row != (index,)], [(at,) for at in range(4) if at != index])
        self.assertEqual(LiveTable(Table([(3,)])).move(0, 0), Table([(3,)]))

    def test_put_best_is_a_put(self):
        for row in ((0, 2), (1, 0), (6, 6), (0, 0)):
            for prices in ((1, 1), (0, 0), (0, 9)):
                live = LiveTable(START)
                tables = [START.rows[:at] + (row,) + START.rows[at:] for at in range(4)]
                costs = [whole_cost(rows, prices) for rows in tables]
                first = costs.index(min(costs))
                self.assertEqual(live.put_best(row, prices).rows, tables[first])
                self.assertEqual(live.journal, [("put", first, row)])
                self.assertEqual(live.undo(), ("put", first, row))
                self.assertEqual(live.now, START)

    def test_what_is_returned_is_new(self):
        live = LiveTable(START)
        live.take(0)
        live.journal.clear()
        live.runs()[0].clear()
        live.runs().clear()
        self.assertEqual(state(live), (Table(START.rows[1:]), [("take", 0)], 1, [[(0, 2)], [(0, 1), (2, 1)]]))
        self.assertIsNot(live.journal, live.journal)

    def test_the_first_table_stays_as_it_was(self):
        live = LiveTable(START)
        live.take(0)
        live.change(0, 0, 5)
        self.assertEqual(START.rows, ((1, 0), (0, 0), (0, 2)))
        before = live.now
        live.take(0)
        self.assertEqual(before.rows, ((5, 0), (0, 2)))

    def test_equal_to_nothing_else(self):
        live = LiveTable(START)
        self.assertTrue(live == live)
        self.assertFalse(live != live)
        for other in [odd for odd in ODD_OBJECTS if not isinstance(odd, Rough)] + [START, START.rows, 0]:
            self.assertFalse(live == other)
            self.assertTrue(live != other)


class BranchesTest(Case):

    def test_branches_are_independent(self):
        live = LiveTable(START)
        live.take(1)
        branch = live.branch()
        self.assertEqual(state(branch), state(live))
        before = state(live)
        branch.put(0, (6, 6))
        branch.undo()
        branch.undo()
        self.assertEqual((state(live), branch.now, branch.journal), (before, START, []))
        live.change(0, 0, 4)
        self.assertEqual((branch.now, branch.journal), (START, []))
        self.refused(NothingDone, branch.undo)

    def test_a_branch_of_a_trial_can_undo_all(self):
        live = LiveTable(START)
        live.take(1)
        with live.trial():
            live.take(0)
            branch = live.branch()
            live.take(0) if len(live.now) > 1 else live.change(0, 0, 5)
        self.assertEqual(branch.journal, [("take", 1), ("take", 0)])
        self.assertEqual([branch.undo(), branch.undo(), branch.now], [("take", 0), ("take", 1), START])
        self.assertEqual(live.journal, [("take", 1)])

    def test_a_trial_of_a_branch(self):
        live = LiveTable(START)
        live.take(1)
        branch = live.branch()
        with branch.trial():
            self.refused(NothingDone, branch.undo)
            self.assertEqual(live.undo(), ("take", 1))
        self.assertEqual((live.journal, branch.journal), ([], [("take", 1)]))


class TrialsTest(Case):

    def test_all_is_as_it_was(self):
        live = LiveTable(START)
        live.take(2)
        before = state(live)
        with live.trial() as inner:
            self.assertIs(inner, live)
            self.assertEqual(state(live), before)
            inner.put(0, (6, 6))
            inner.change(0, 0, 5)
            self.assertEqual(inner.undo(), ("change", 0, 0, 5))
            inner.move(0, 2)
            self.assertEqual(live.journal, [("take", 2), ("put", 0, (6, 6)), ("move", 0, 2)])
        self.assertEqual(state(live), before)
        self.assertEqual(live.undo(), ("take", 2))
        self.assertEqual(live.now, START)

    def test_only_what_was_done_in_it_is_undone(self):
        live = LiveTable(START)
        live.take(2)
        with live.trial():
            self.refused(NothingDone, live.undo)
            live.take(0)
            live.undo()
            self.refused(NothingDone, live.undo)
            self.assertEqual(live.journal, [("take", 2)])
        self.assertEqual(live.undo(), ("take", 2))

    def test_trials_inside_trials(self):
        live = LiveTable(START)
        live.take(2)
        states = [state(live)]
        with live.trial():
            live.put(0, (6, 6))
            states.append(state(live))
            with live.trial() as inner:
                self.assertIs(inner, live)
                self.refused(NothingDone, live.undo)
                live.take(0)
                live.take(0)
                states.append(state(live))
                with live.trial():
                    self.refused(NothingDone, live.undo)
                    live.put_best((0, 0), (1, 1))
                self.assertEqual(state(live), states[2])
                live.undo()
                live.undo()
                self.refused(NothingDone, live.undo)
            self.assertEqual(state(live), states[1])
            self.assertEqual(live.undo(), ("put", 0, (6, 6)))
            self.refused(NothingDone, live.undo)
        self.assertEqual(state(live), states[0])
        self.assertEqual(live.undo(), ("take", 2))

    def test_a_trial_begins_when_it_is_entered(self):
        live = LiveTable(START)
        trial = live.trial()
        live.take(0)
        before = state(live)
        with trial:
            self.refused(NothingDone, live.undo)
            live.take(0)
        self.assertEqual(state(live), before)

    def test_one_trial_after_another(self):
        live = LiveTable(START)
        for word in ("one", "other"):
            with live.trial():
                live.take(0)
                self.assertEqual(live.journal, [("take", 0)], word)
            self.assertEqual(state(live), (START, [], 0, all_runs(START)))

    def test_an_error_is_passed_on(self):
        live = LiveTable(START)
        live.take(2)
        before = state(live)
        for error in (Oops, KeyError, NothingDone, KeyboardInterrupt):
            with self.assertRaises(error):
                with live.trial():
                    live.take(0)
                    with live.trial():
                        live.put(0, (5, 5))
                        raise error()
            self.assertEqual(state(live), before)
        with self.assertRaises(BadIndex):
            with live.trial():
                live.take(0)
                live.take(99)
        self.assertEqual(state(live), before)
        with live.trial():
            live.take(0)
            with self.assertRaises(Oops):
                with live.trial():
                    live.put(0, (5, 5))
                    raise Oops
            self.assertEqual(live.journal, [("take", 2), ("take", 0)])
            self.assertEqual(live.undo(), ("take", 0))
        self.assertEqual(state(live), before)

    def test_left_by_return_and_break(self):
        live = LiveTable(START)

        def leave():
            with live.trial():
                live.take(0)
                return len(live)

        self.assertEqual(leave(), 1)
        for _ in range(2):
            with live.trial():
                live.take(0)
                break
        self.assertEqual(state(live), (START, [], 0, all_runs(START)))

    def test_attempt(self):
        live = LiveTable(START)
        live.take(2)
        before = state(live)
        seen = []

        def work(held):
            seen.append(held)
            self.refused(NothingDone, held.undo)
            held.take(0)
            return held.now, held.journal

        self.assertEqual(live.attempt(work), (Table([(0, 0)]), [("take", 2), ("take", 0)]))
        self.assertIs(seen[0], live)
        self.assertEqual(state(live), before)
        self.assertIsNone(live.attempt(lambda held: None))
        self.assertEqual(live.attempt(lambda held: held.attempt(work)[1]), [("take", 2), ("take", 0)])

        def fail(held):
            held.take(0)
            raise Oops

        with self.assertRaises(Oops):
            live.attempt(fail)
        self.assertEqual(state(live), before)
        self.assertEqual(live.undo(), ("take", 2))


class RefusedDeedsTest(Case):

    def check_deed(self, live, name, *arguments):
        """Check a deed as check_arguments does, and that refused deeds change nothing."""
        before = state(live)

        def call(*given):
            try:
                getattr(live, name)(*given)
            except Exception:
                self.assertEqual(state(live), before)
                raise
            live.undo()

        self.check_arguments(call, *arguments)

    def test_wrong_arguments(self):
        ten = LiveTable(Table([(at % 7, 0) for at in range(9)]))
        ten.put(9, (6, 6))
        ten.undo()
        for live in (LiveTable(START), ten):
            many = len(live.now)
            row, some = ((6, 0), BadRow, wrong_rows(2)), ((9, 0), BadPrices, wrong_prices(2))
            last = (many - 1, BadIndex, wrong_numbers(0, many - 1))
            self.check_deed(live, "put", (many, BadIndex, wrong_numbers(0, many)), row)
            self.check_deed(live, "put_best", row, some)
            self.check_deed(live, "take", last)
            self.check_deed(live, "change", last, (1, BadColumn, wrong_numbers(0, 1)), (6, BadRow, wrong_numbers(0, 6)))
            self.check_deed(live, "move", last, last)

    def test_inside_a_trial(self):
        live = LiveTable(START)
        with live.trial():
            live.take(0)
            for call, error in ((lambda: live.take(2), BadIndex), (lambda: live.put(0, (0, 7)), BadRow)):
                before = state(live)
                self.refused(error, call)
                self.assertEqual(state(live), before)

    def test_full_tables(self):
        live = LiveTable(Table([(at % 7, 0) for at in range(10)]))
        before = state(live)
        self.refused(TooLarge, live.put, 10, (0, 0))
        self.refused(TooLarge, live.put_best, (0, 0), (1, 1))
        self.refused(BadIndex, live.put, 11, (0, 0))
        self.refused(BadIndex, live.put, 11, None)
        self.refused(BadRow, live.put, 10, (0, 7))
        self.refused(BadRow, live.put_best, (0,), None)
        self.refused(BadPrices, live.put_best, (0, 0), (1, 10))
        self.assertEqual(state(live), before)
        live.take(0)
        self.assertEqual(len(live.put(9, (6, 6))), 10)

    def test_the_only_row(self):
        live = LiveTable(Table([(0, 6)]))
        for wrong in wrong_numbers(0, 0) + [0]:
            self.refused(BadIndex, live.take, wrong)
        self.assertEqual(state(live), (Table([(0, 6)]), [], 0, [[(0, 1)], [(6, 1)]]))

    def test_no_table(self):
        self.check_arguments(LiveTable, (START, BadTable, NO_TABLES))

    def test_nothing_done(self):
        live = LiveTable(START)
        self.refused(NothingDone, live.undo)
        self.assertEqual(state(live), (START, [], 0, all_runs(START)))


if __name__ == "__main__":
    unittest.main()
