"""The names, arguments and classes that the interface lists, each in the file under which it stands."""

import doctest
import importlib
import inspect
import pathlib
import unittest

README = pathlib.Path(__file__).resolve().parent.parent / "README.md"

INTERFACE = {
    "tables": ["Table(rows)", "Table.column(self, c)", "Table.different(self)", "Table.ordered(self, order)",
               "Table.turned(self)"],
    "runs": ["runs_of(table, c)", "all_runs(table)", "count_runs(table)", "changes(table)", "cost(table, prices)",
             "starts(runs)", "values_of(runs)", "value_at(runs, index)", "table_of(columns)"],
    "stepping": ["full_row(sizes, index)", "full_index(sizes, row)", "step(table)", "can_step(table)",
                 "count_stepped(table)", "even_and_odd(table)", "Stepped(order)", "Stuck(beginnings)",
                 "Stepped.shows(self, table)", "Stuck.shows(self, table)"],
    "telling": ["judge_told(table, columns, c)", "is_told(table, columns, c)", "least_tellers(table, c)",
                "never_more(table, c, d)", "find_keys(table)", "keys(table)", "kin(table)",
                "merged_prices(table, prices)", "Told(known)", "Untold(one, other)", "Keys(least, pairs)",
                "Told.shows(self, table, columns, c)", "Untold.shows(self, table, columns, c)",
                "Keys.shows(self, table)"],
    "asks": ["ask_stretches(table, ask)", "how_many(table, ask)", "looks(table, ask)", "answer(table, ask)",
             "added(table, ask, c)", "cuts(table, columns)", "groups(table, c, d)", "Answer(parts)",
             "Answer.shows(self, table, ask)"],
    "placing": ["put_cost(table, index, row, prices)", "take_cost(table, index, prices)",
                "set_cost(table, index, c, value, prices)", "best_gaps(table, row, prices)",
                "put_best(table, row, prices)", "grow(table, prices)", "tree_cost(table, prices)",
                "Grown(order, ties)", "Grown.shows(self, table, prices)"],
    "live": ["LiveTable(table)", "LiveTable.put(self, index, row)", "LiveTable.put_best(self, row, prices)",
             "LiveTable.take(self, index)", "LiveTable.change(self, index, c, value)",
             "LiveTable.move(self, index, late)", "LiveTable.runs(self)", "LiveTable.undo(self)",
             "LiveTable.branch(self)", "LiveTable.trial(self)", "LiveTable.attempt(self, work)"],
    "ordering": ["best_order(table, prices)", "least_changes(table, prices)", "count_best(table, prices)",
                 "nth_best(table, prices, index)", "best_index(table, prices, order)", "least_tree(table, prices)",
                 "least_ties(table, prices)", "round_order(table, prices)", "Best(order, rest)", "Bound(ties)",
                 "Best.shows(self, table, prices)", "Bound.shows(self, table, prices)"],
    "sorting": ["sort_rows(table, places)", "sorted_runs(table, places)", "beginnings(table, places)",
                "best_sort(table, prices)", "full_runs(sizes, places)", "full_best(sizes)", "Sorts(places, sums)",
                "Sorts.shows(self, table, prices)"],
    "spreading": ["average_runs(counts)", "most_runs(counts)", "spread(counts)", "count_spread(counts, runs)",
                  "nth_spread(counts, runs, index)", "spread_index(column)", "count_columns(rows, values, runs)",
                  "Spread(cells)", "Spread.shows(self, counts)"],
    "coding": ["best_code(values, asks)", "least_stretches(values, asks)", "in_one(values, asks)",
               "alike(values, asks)", "count_codes(values, asks)", "asked_stretches(values, asks, order)",
               "nth_code(values, asks, index)", "code_index(values, asks, order)", "Code(order, gains)",
               "Code.shows(self, values, asks)"],
    "paging": ["cut(table, most)", "fewest_pages(table, most)", "least_most(table, pages)",
               "cut_totals(table, pages)", "least_total(table, pages)", "runs_between(table, first, past)",
               "Pages(cuts, marks)", "Totals(cuts, sums)", "Pages.shows(self, table, most)",
               "Totals.shows(self, table, pages)"],
    "stretching": ["stretches(many, some)", "set_of(many, pieces)", "value_stretches(table, place)",
                   "most_stretches(word, many, first, last)", "reach(word, many, first, last)",
                   "most_without(many, first)", "made_of(many, sets)", "count_made(many, sets)",
                   "Reached(one, other)", "Made(words)", "Reached.shows(self, word, many, first, last)",
                   "Made.shows(self, many, sets)"],
    "texts": ["table_text(table)", "runs_text(table)", "read_table(text)", "read_runs(text)"],
    "rising": ["rise_together(table, places)", "cut_rising(table, places)", "fewest_rising(table, places)",
               "count_crossing(table, places)", "Rising(order)", "Crossing(one, other)", "Risen(pieces, crossing)",
               "Rising.shows(self, table, places)", "Crossing.shows(self, table, places)",
               "Risen.shows(self, table, places)"],
    "moving": ["keep_rows(table, place)", "longest_rising(table, place)", "fewest_moves(table, place)",
               "count_kept(table, place)", "sort_moves(table, place)", "nth_kept(table, place, index)",
               "Kept(stays, piles)", "Kept.shows(self, table, place)"],
    "sloped": ["cut_sloped(table, place)", "fewest_sloped(table, place)", "count_sloped(table, place)",
               "differences(table, place)", "nth_sloped(table, place, index)", "values_sloped(pieces)",
               "Sloped(pieces, marks)", "Sloped.shows(self, table, place)"],
    "together": ["best_groups(table)", "least_grouped(table)", "all_groupings(table)", "count_best_groups(table)",
                 "group_runs(table, places)", "group_cost(table, places)", "grouped_cost(table, groups)",
                 "Grouped(groups, lots)", "Grouped.shows(self, table)"],
    "allorders": ["orders_by_changes(table, prices)", "average_changes(table, prices)", "worst_order(table, prices)",
                  "most_changes(table, prices)", "nth_with_changes(table, prices, cost, index)",
                  "changes_index(table, prices, order)", "Worst(order, rest)", "Worst.shows(self, table, prices)"],
    "keepsorted": ["best_within(table, prices, place)", "least_within(table, prices, place)",
                   "cheapest_column(table, prices)", "Within(order, rest)", "Within.shows(self, table, prices, place)"],
    "luck": ["spread_of_runs(counts)", "chance_of_few(counts, runs)", "tables_by_runs(rows, values)",
             "count_tables(rows, values, runs)"],
    "repainting": ["repaint(table, place, runs)", "fewest_repaints(table, place, runs)",
                   "repaints_by_runs(table, place)", "Repainted(cells, floors)",
                   "Repainted.shows(self, table, place, runs)"],
    "allpages": ["page_cost(table, first, past, prices)", "all_cost(table, prices)", "sliding(table, wide, prices)",
                 "ends_of_most(table, wide, prices)", "quiet(table)"],
    "thinning": ["thin(table, c, many)", "fewest_thinned(table, c, many)", "most_thinned(table, c, many)",
                 "count_thinned(table, c, many)", "Thinned(kept, floors)", "Thinned.shows(self, table, c, many)"],
    "seams": ["best_seams(pieces, prices)", "least_seams(pieces, prices)", "put_together_best(pieces, prices)",
              "Seamed(plan, floors)", "Seamed.shows(self, pieces, prices)"],
    "joins": ["join_pairs(one, other)", "join_count(one, other)", "join_runs(one, other)", "join_looks(one, other)",
              "lonely(one, other)", "join_groups(one, other, c, d)"],
    "rounds": ["around_cost(table, prices)", "best_begins(table, prices)", "least_around(table, prices)",
               "turned_to(table, first)", "period(table)", "least_turn(table)", "are_one_ring(one, other)",
               "count_rings(many, values, changes)"],
    "ranks": ["count_of(table, c, value)", "far_from(table, c, value)", "rank_at(table, c, value, index)",
              "row_with(table, c, value, number)", "nth_value(table, c, number)", "middles(table, c)",
              "frequent(table, c)", "majority(table, c)"],
}
PROPERTIES = {("tables", "Table"): ["width"], ("live", "LiveTable"): ["now", "journal"]}


class InterfaceTest(unittest.TestCase):

    def test_names_and_arguments(self):
        for file, listed in INTERFACE.items():
            module = importlib.import_module(f"runcolumns.{file}")
            for form in listed:
                path, arguments = form[:-1].split("(")
                held = module
                for name in path.split("."):
                    self.assertIn(name, vars(held), f"{file}: {form}")
                    held = vars(held)[name]
                self.assertEqual(held.__module__, module.__name__, form)
                self.assertEqual(str(inspect.signature(held)), f"({arguments})", f"{file}: {form}")

    def test_readme(self):
        results = doctest.testfile(str(README), module_relative=False)
        self.assertEqual(results.failed, 0)
        self.assertGreater(results.attempted, 5)

    def test_properties(self):
        for (file, owner), names in PROPERTIES.items():
            module = importlib.import_module(f"runcolumns.{file}")
            for name in names:
                self.assertIsInstance(vars(getattr(module, owner))[name], property)


if __name__ == "__main__":
    unittest.main()
