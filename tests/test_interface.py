"""The names, arguments and classes that the interface lists, each in the file under which it stands."""

import doctest
import importlib
import inspect
import pathlib
import unittest

README = pathlib.Path(__file__).resolve().parent.parent / "README.md"

INTERFACE = {
    "tables": ["Table(rows)", "Table.column(self, c)", "Table.different(self)", "Table.ordered(self, order)",
               "Table.turned(self)"],
    "runs": ["runs_of(table, c)", "all_runs(table)", "count_runs(table)", "changes(table)", "cost(table, prices)",
             "starts(runs)", "values_of(runs)", "value_at(runs, index)", "table_of(columns)"],
    "stepping": ["full_row(sizes, index)", "full_index(sizes, row)", "step(table)", "can_step(table)",
                 "count_stepped(table)", "even_and_odd(table)", "Stepped(order)", "Stuck(beginnings)",
                 "Stepped.shows(self, table)", "Stuck.shows(self, table)"],
    "telling": ["judge_told(table, columns, c)", "is_told(table, columns, c)", "least_tellers(table, c)",
                "never_more(table, c, d)", "find_keys(table)", "keys(table)", "kin(table)",
                "merged_prices(table, prices)", "Told(known)", "Untold(one, other)", "Keys(least, pairs)",
                "Told.shows(self, table, columns, c)", "Untold.shows(self, table, columns, c)",
                "Keys.shows(self, table)"],
    "asks": ["ask_stretches(table, ask)", "how_many(table, ask)", "looks(table, ask)", "answer(table, ask)",
             "added(table, ask, c)", "cuts(table, columns)", "groups(table, c, d)", "Answer(parts)",
             "Answer.shows(self, table, ask)"],
    "placing": ["put_cost(table, index, row, prices)", "take_cost(table, index, prices)",
                "set_cost(table, index, c, value, prices)", "best_gaps(table, row, prices)",
                "put_best(table, row, prices)", "grow(table, prices)", "tree_cost(table, prices)",
                "Grown(order, ties)", "Grown.shows(self, table, prices)"],
    "live": ["LiveTable(table)", "LiveTable.put(self, index, row)", "LiveTable.put_best(self, row, prices)",
             "LiveTable.take(self, index)", "LiveTable.change(self, index, c, value)",
             "LiveTable.move(self, index, late)", "LiveTable.runs(self)", "LiveTable.undo(self)",
             "LiveTable.branch(self)", "LiveTable.trial(self)", "LiveTable.attempt(self, work)"],
    "ordering": ["best_order(table, prices)", "least_changes(table, prices)", "count_best(table, prices)",
                 "nth_best(table, prices, index)", "best_index(table, prices, order)", "least_tree(table, prices)",
                 "least_ties(table, prices)", "round_order(table, prices)", "Best(order, rest)", "Bound(ties)",
                 "Best.shows(self, table, prices)", "Bound.shows(self, table, prices)"],
}
PROPERTIES = {("tables", "Table"): ["width"], ("live", "LiveTable"): ["now", "journal"]}


class InterfaceTest(unittest.TestCase):

    def test_names_and_arguments(self):
        for file, listed in INTERFACE.items():
            module = importlib.import_module(f"runcolumns.{file}")
            for form in listed:
                path, arguments = form[:-1].split("(")
                held = module
                for name in path.split("."):
                    self.assertIn(name, vars(held), f"{file}: {form}")
                    held = vars(held)[name]
                self.assertEqual(held.__module__, module.__name__, form)
                self.assertEqual(str(inspect.signature(held)), f"({arguments})", f"{file}: {form}")

    def test_readme(self):
        results = doctest.testfile(str(README), module_relative=False)
        self.assertEqual(results.failed, 0)
        self.assertGreater(results.attempted, 5)

    def test_properties(self):
        for (file, owner), names in PROPERTIES.items():
            module = importlib.import_module(f"runcolumns.{file}")
            for name in names:
                self.assertIsInstance(vars(getattr(module, owner))[name], property)


if __name__ == "__main__":
    unittest.main()
