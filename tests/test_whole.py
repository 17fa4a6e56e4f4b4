"""[1] Conventions, over the whole program; and the files together, about a live table."""

import copy
import random
import unittest

from runcolumns.allorders import most_changes, orders_by_changes
from runcolumns.allpages import page_cost, sliding
from runcolumns.asks import ask_stretches, cuts, how_many
from runcolumns.errors import ColumnError, NothingDone, TooLarge
from runcolumns.joins import join_count
from runcolumns.keepsorted import least_within
from runcolumns.live import LiveTable
from runcolumns.moving import fewest_moves, longest_rising
from runcolumns.ordering import count_best, least_changes, least_ties
from runcolumns.paging import least_total
from runcolumns.placing import tree_cost
from runcolumns.ranks import count_of
from runcolumns.repainting import repaints_by_runs
from runcolumns.rounds import around_cost, least_around
from runcolumns.runs import all_runs, cost, count_runs, runs_of
from runcolumns.seams import least_seams
from runcolumns.stretching import value_stretches
from runcolumns.tables import Table
from runcolumns.thinning import fewest_thinned, most_thinned
from runcolumns.together import group_runs
from tests.calls import CALLS, in_order, is_evidence, lists_in, named, prices, spoil, written
from tests.cases import Case
from tests.samples import ODD_OBJECTS, Rough, different, priced, some_tables
from tests.test_interface import INTERFACE

START = Table([(1, 0), (0, 0), (1, 0), (0, 2), (1, 1)])
RISING = Table([(0, 1), (1, 2), (0, 0), (1, 5)])
MANY_DIFFERENT = Table([(at % 3, at // 3) for at in range(8)])


def all_calls(table):
    """All functions of the interface, each with its name and right arguments."""
    return [
        (f"{file}.{name}", named(file, name), make(table)) for file, calls in CALLS.items() for name, make in calls.items()
    ]


def with_booleans(held):
    """What is held with one 0 or 1 in it turned into False or True, or the other way round, in all ways."""
    if isinstance(held, (list, tuple)):
        found = []
        for at, part in enumerate(held):
            found += [type(held)(list(held[:at]) + [other] + list(held[at + 1:])) for other in with_booleans(part)]
        return found
    if isinstance(held, dict):
        found = []
        for key, worth in held.items():
            for other in with_booleans((key, worth)):
                found.append({(other[0] if name == key else name): held[name] for name in held})
                found[-1][other[0]] = other[1]
        return found
    if held is True or held is False:
        return [int(held)]
    return [bool(held)] if isinstance(held, int) and held in (0, 1) else []


class ConventionsTest(Case):

    def test_each_function_is_called(self):
        for file, listed in INTERFACE.items():
            names = {form.partition("(")[0] for form in listed}
            functions = {name for name in names if name[0].islower()}
            self.assertEqual(functions - set(CALLS[file]), set(), file)
        self.assertEqual(len(CALLS), 28)

    def test_answers_are_new_each_time(self):
        for name, call, arguments in all_calls(START):
            first, second = call(*arguments), call(*arguments)
            before = written(first)
            self.assertEqual(written(second), before, name)
            held = [id(part) for part in lists_in(first) + lists_in(second) + lists_in(arguments)]
            self.assertEqual(len(held), len(set(held)), f"{name} gives a list or dict that is not new")
            spoil(first)
            self.assertEqual(written(second), before, name)
            self.assertEqual(written(call(*arguments)), before, name)

    def test_arguments_are_neither_modified_nor_kept(self):
        for name, call, arguments in all_calls(START):
            before = written(arguments)
            found = call(*arguments)
            self.assertEqual(written(arguments), before, name)
            told = written(found)
            spoil([part for part in arguments if not is_evidence(part)])
            self.assertEqual(written(found), told, f"{name} keeps an argument")

    def test_evidence_shows(self):
        shown = 0
        for table in [START, MANY_DIFFERENT.ordered(tuple(range(8))[::-1])] + some_tables(many=10, seed=7):
            if len(table) < 2 or len(table) > 9:
                continue
            for name, call, arguments in self.calls_for(table):
                found = call(*arguments)
                if is_evidence(found):
                    before = written(found), written(arguments)
                    self.assertIs(found.shows(*arguments), True, (name, table.rows))
                    self.assertEqual((written(found), written(arguments)), before, name)
                    shown += 1
        self.assertGreater(shown, 100)

    def calls_for(self, table):
        """The functions that a table is not too large for."""
        found = []
        for file, calls in CALLS.items():
            for name, make in calls.items():
                try:
                    arguments = make(table)
                    named(file, name)(*arguments)
                except ColumnError:
                    continue
                found.append((name, named(file, name), arguments))
        return found

    def test_booleans_are_not_integers(self):
        refused = 0
        for name, call, arguments in all_calls(START):
            for wrong in with_booleans(arguments):
                with self.assertRaises(ColumnError, msg=f"{name}{wrong}"):
                    call(*wrong)
                refused += 1
        self.assertGreater(refused, 200)

    def test_booleans_in_methods(self):
        live = LiveTable(START)
        calls = [
            (START.column, (1,)), (START.ordered, ((1, 0, 2, 3, 4),)), (lambda index: START[index], (1,)),
            (live.put, (0, (1, 0))), (live.put_best, ((1, 0), (1, 0))), (live.take, (0,)), (live.change, (1, 0, 1)),
            (live.move, (0, 1)),
        ]
        for call, arguments in calls:
            for wrong in with_booleans(arguments):
                with self.assertRaises(ColumnError, msg=str(wrong)):
                    call(*wrong)
        self.assertEqual((live.now, live.journal), (START, []))
        for name, call, arguments in all_calls(START):
            found = call(*arguments)
            if is_evidence(found):
                for wrong in with_booleans(arguments):
                    with self.assertRaises(ColumnError, msg=f"shows of {name}{wrong}"):
                        found.shows(*wrong)

    def test_booleans_in_evidence(self):
        judged, kinds = 0, set()
        for name, found, arguments in evidence_of(START) + evidence_of(RISING):
            kinds.add(type(found).__name__)
            for attribute, right in list(vars(found).items()):
                for wrong in with_booleans(right):
                    self.assertEqual(wrong, right)
                    setattr(found, attribute, wrong)
                    self.assertIs(found.shows(*arguments), False, (name, attribute, wrong))
                    judged += 1
                setattr(found, attribute, right)
            self.assertIs(found.shows(*arguments), True, name)
        self.assertGreater(judged, 500)
        self.assertEqual(len(kinds), 27)

    def test_equal_to_nothing_else(self):
        things = [Table([(0,)]), LiveTable(Table([(0,)]))]
        for file, listed in INTERFACE.items():
            for form in listed:
                name, _, arguments = form[:-1].partition("(")
                if name[0].isupper() and "." not in name and name not in ("Table", "LiveTable"):
                    make = named(file, name)
                    things.append(make(*[()] * (arguments.count(",") + 1)))
                    self.assertTrue(things[-1] == make(*[()] * (arguments.count(",") + 1)), name)
        self.assertEqual(len(things), 29)
        strangers = [odd for odd in ODD_OBJECTS if not isinstance(odd, (Rough, Table, LiveTable))]
        for at, one in enumerate(things):
            self.assertTrue(one == one and not one != one)
            for other in things[:at] + things[at + 1:] + strangers + [((0,),), (), 0]:
                self.assertFalse(one == other, f"{one!r} == {other!r}")
                self.assertTrue(one != other)

    def test_copies_of_evidence_are_equal(self):
        for name, call, arguments in all_calls(START):
            found = call(*arguments)
            if is_evidence(found):
                twin = copy.deepcopy(found)
                self.assertTrue(found == twin and not found != twin, name)
                spoil(twin)
                self.assertTrue(found != twin and not found == twin, name)

    def test_errors_change_nothing(self):
        for name, call, arguments in all_calls(START):
            for wrong in with_booleans(arguments):
                before = written(wrong)
                with self.assertRaises(ColumnError):
                    call(*wrong)
                self.assertEqual(written(wrong), before, name)


def told(table):
    """What all files tell of a table: answers, or the names of the errors."""
    found = {}
    for file, calls in CALLS.items():
        for name, make in calls.items():
            try:
                found[file, name] = written(named(file, name)(*make(table)))
            except ColumnError as error:
                found[file, name] = type(error).__name__
    return found


def evidence_of(table):
    """All evidence about a table, with the arguments for which it holds."""
    found = []
    for file, calls in CALLS.items():
        for name, make in calls.items():
            try:
                arguments = make(table)
                answer = named(file, name)(*arguments)
            except ColumnError:
                continue
            if is_evidence(answer):
                found.append((name, answer, arguments))
    return found


def some_deed(chance, live):
    """A deed that a live table does not refuse."""
    many, width, high = len(live.now), live.now.width, chance.choice((1, 2, 6))
    row = tuple(chance.randint(0, high) for _ in range(width))
    deeds = [("change", chance.randrange(many), chance.randrange(width), chance.randint(0, high))]
    deeds += [("move", chance.randrange(many), chance.randrange(many))]
    if many < 10:
        deeds += [("put", chance.randint(0, many), row), ("put_best", row, prices(live.now))]
    if many > 1:
        deeds.append(("take", chance.randrange(many)))
    return chance.choice(deeds)


class LiveTableTest(Case):

    def test_what_is_told_after_each_deed(self):
        for seed, width in ((1, 2), (2, 1), (3, 3)):
            chance = random.Random(seed)
            live = LiveTable(Table([(at % 2,) * width for at in range(4)]))
            states = [(live.now, told(live.now), evidence_of(live.now))]
            for _ in range(14):
                if len(states) > 1 and chance.random() < 0.3:
                    live.undo()
                    states.pop()
                else:
                    self.do(live, some_deed(chance, live))
                    states.append((live.now, told(live.now), evidence_of(live.now)))
                self.check_state(live, states)
            while len(states) > 1:
                live.undo()
                states.pop()
                self.check_state(live, states)
            self.refused(NothingDone, live.undo)

    def do(self, live, deed):
        return getattr(live, deed[0])(*deed[1:])

    def check_state(self, live, states):
        """Check that all files tell what they told when this table came to be, and that the evidence still holds."""
        table, before, evidence = states[-1]
        self.assertEqual((live.now, len(live)), (table, len(states) - 1))
        self.assertEqual(live.runs(), all_runs(table))
        fresh = Table(list(table.rows))
        self.assertEqual(told(fresh), before)
        for name, found, arguments in evidence:
            self.assertTrue(found.shows(*arguments), name)
        self.check_agreement(live.now)

    def test_what_is_told_inside_and_behind_trials(self):
        chance = random.Random(5)
        live = LiveTable(START)
        before = told(live.now)
        with live.trial():
            self.do(live, some_deed(chance, live))
            branch, inside = live.branch(), told(live.now)
            live.attempt(lambda held: [self.do(held, some_deed(chance, held)) for _ in range(5)])
            self.assertEqual(told(live.now), inside)
            self.check_agreement(live.now)
        self.assertEqual(told(live.now), before)
        self.assertEqual(told(branch.now), inside)
        branch.undo()
        self.assertEqual(told(branch.now), before)

    def test_evidence_of_other_tables(self):
        # These answers are all different for a table of equal rows, and for one of two rows.
        for name, found, arguments in evidence_of(START):
            for other in (Table([(0,)] * 7), Table(START.rows[:2])):
                if arguments[0] is START and name not in ("judge_told", "rise_together", "least_tree", "find_keys"):
                    with self.subTest(name=name):
                        self.assertFalse(self.shown(found, (other,) + arguments[1:]))

    def shown(self, found, arguments):
        try:
            return found.shows(*arguments)
        except ColumnError:
            return False

    def check_agreement(self, table):
        """Check that what the files tell of a table fits together."""
        some, many, values = prices(table), len(table), table.column(0)
        whole = sum(some) + sum(priced(one, other, some) for one, other in zip(table.rows, table.rows[1:]))
        self.assertEqual({cost(table, some), page_cost(table, 0, many, some), *sliding(table, many, some)}, {whole})
        self.assertEqual(around_cost(table, some), whole - sum(some) + priced(table.rows[-1], table[0], some))
        self.assertLessEqual(least_around(table, some), whole)
        self.assertEqual(least_total(table, 1), count_runs(table))
        runs = len(runs_of(table, 0))
        self.assertEqual([fewest_thinned(table, 0, many), most_thinned(table, 0, many)], [runs, runs])
        self.assertEqual([group_runs(table, (0,)), len(cuts(table, (0,)))], [runs, runs])
        repaints = repaints_by_runs(table, 0)
        self.assertEqual([number == 0 for number in repaints], [at + 1 >= runs for at in range(many)])
        self.assertEqual(fewest_moves(table, 0) + longest_rising(table, 0), many)
        counts = [count_of(table, 0, value) for value in range(7)]
        self.assertEqual(counts, [how_many(table, ("is", 0, (value,))) for value in range(7)])
        self.assertEqual(join_count(in_order(table), in_order(table)), sum(number * number for number in counts))
        asked = {value: ask_stretches(table, ("is", 0, (value,))) for value in sorted(set(values))}
        self.assertEqual(value_stretches(table, 0), asked)
        self.check_orders(table, some)

    def check_orders(self, table, some):
        rows = different(table)
        if len(rows) > 7:
            for call in (least_changes, orders_by_changes, most_changes, count_best, least_ties):
                self.refused(TooLarge, call, table, some)
            return
        least, orders = least_changes(table, some), orders_by_changes(table, some)
        self.assertEqual((min(orders), max(orders)), (least, most_changes(table, some)))
        self.assertEqual(orders[least], count_best(table, some))
        self.assertEqual(tree_cost(table, some), least_ties(table, some))
        self.assertLessEqual(least_ties(table, some), least)
        self.assertLessEqual(least, least_within(table, some, 0))
        self.assertLessEqual(sum(some) + least, cost(table, some))
        if len(rows) <= 6:
            self.assertEqual(least_seams([Table([row]) for row in rows], some), least)


if __name__ == "__main__":
    unittest.main()
