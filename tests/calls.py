"""Right arguments of every function of the interface, for whatever table; and what can be done with their answers."""

import importlib

from runcolumns.allorders import most_changes
from runcolumns.coding import best_code
from runcolumns.ordering import best_order
from runcolumns.runs import all_runs, runs_of
from runcolumns.tables import Table
from runcolumns.texts import runs_text, table_text
from runcolumns.together import best_groups
from tests.samples import different

ASKS = (((0, 1), 1), ((1, 2), 3), ((0, 3), 1))


def last(table):
    return table.width - 1


def prices(table):
    return (1, 5, 0, 9)[:table.width]


def every(table):
    return tuple(range(table.width))


def in_order(table):
    """The table with its rows sorted."""
    return Table(sorted(table.rows))


def top(table):
    """The last row, with another first value."""
    return (6 - table[0][0],) + table.rows[-1][1:]


def an_ask(table):
    return ("or", ("and", ("is", 0, (0, 1)), ("same", 0, last(table))), ("not", ("is", last(table), (1,))))


def pieces_of(table):
    """The table, cut into pieces of one and two rows, as far as these are not too many."""
    rows = table.rows
    return [Table(rows[:1])] + [Table(rows[at:at + 2]) for at in range(1, len(rows), 2)]


# For each file, each function with a maker of its arguments. A maker gives new lists each time.
CALLS = {
    "tables": {"Table": lambda t: (list(t.rows),)},
    "runs": {
        "runs_of": lambda t: (t, 0), "all_runs": lambda t: (t,), "count_runs": lambda t: (t,), "changes": lambda t: (t,),
        "cost": lambda t: (t, prices(t)), "starts": lambda t: (runs_of(t, 0),), "values_of": lambda t: (runs_of(t, 0),),
        "value_at": lambda t: (runs_of(t, 0), 0), "table_of": lambda t: (all_runs(t),),
    },
    "stepping": {
        "full_row": lambda t: ((2, 3, 1), 1), "full_index": lambda t: ((2, 3, 1), (1, 0, 0)), "step": lambda t: (t,),
        "can_step": lambda t: (t,), "count_stepped": lambda t: (t,), "even_and_odd": lambda t: (t,),
    },
    "telling": {
        "judge_told": lambda t: (t, every(t)[1:], 0), "is_told": lambda t: (t, every(t)[1:], 0),
        "least_tellers": lambda t: (t, 0), "never_more": lambda t: (t, 0, last(t)), "find_keys": lambda t: (t,),
        "keys": lambda t: (t,), "kin": lambda t: (t,), "merged_prices": lambda t: (t, prices(t)),
    },
    "asks": {
        "ask_stretches": lambda t: (t, an_ask(t)), "how_many": lambda t: (t, an_ask(t)), "looks": lambda t: (t, an_ask(t)),
        "answer": lambda t: (t, an_ask(t)), "added": lambda t: (t, an_ask(t), 0), "cuts": lambda t: (t, every(t)),
        "groups": lambda t: (t, 0, last(t)),
    },
    "placing": {
        "put_cost": lambda t: (t, 1, top(t), prices(t)), "take_cost": lambda t: (t, 1, prices(t)),
        "set_cost": lambda t: (t, 1, 0, 1, prices(t)), "best_gaps": lambda t: (t, top(t), prices(t)),
        "put_best": lambda t: (t, top(t), prices(t)), "grow": lambda t: (t, prices(t)),
        "tree_cost": lambda t: (t, prices(t)),
    },
    "live": {"LiveTable": lambda t: (t,)},
    "ordering": {
        "best_order": lambda t: (t, prices(t)), "least_changes": lambda t: (t, prices(t)),
        "count_best": lambda t: (t, prices(t)), "nth_best": lambda t: (t, prices(t), 1),
        "best_index": lambda t: (t, prices(t), best_order(t, prices(t)).order), "least_tree": lambda t: (t, prices(t)),
        "least_ties": lambda t: (t, prices(t)), "round_order": lambda t: (t, prices(t)),
    },
    "sorting": {
        "sort_rows": lambda t: (t, every(t)[::-1]), "sorted_runs": lambda t: (t, every(t)[::-1]),
        "beginnings": lambda t: (t, every(t)[::-1]), "best_sort": lambda t: (t, prices(t)),
        "full_runs": lambda t: ((3, 1, 2), (1, 2, 0)), "full_best": lambda t: ((3, 1, 2),),
    },
    "spreading": {
        "average_runs": lambda t: ([2, 1, 3],), "most_runs": lambda t: ([2, 1, 3],), "spread": lambda t: ([2, 1, 3],),
        "count_spread": lambda t: ([1, 1], 1), "nth_spread": lambda t: ([2, 1, 3], 4, 1),
        "spread_index": lambda t: ((0, 1, 2, 0),), "count_columns": lambda t: (3, 2, 1),
    },
    "coding": {
        "best_code": lambda t: (4, list(ASKS)), "least_stretches": lambda t: (4, list(ASKS)),
        "in_one": lambda t: (4, list(ASKS)), "alike": lambda t: (4, list(ASKS)), "count_codes": lambda t: (4, list(ASKS)),
        "asked_stretches": lambda t: (4, list(ASKS), (1, 0, 2, 3)), "nth_code": lambda t: (4, list(ASKS), 1),
        "code_index": lambda t: (4, list(ASKS), best_code(4, ASKS).order),
    },
    "paging": {
        "cut": lambda t: (t, t.width + 1), "fewest_pages": lambda t: (t, t.width + 1), "least_most": lambda t: (t, 1),
        "cut_totals": lambda t: (t, (len(t) + 1) // 2), "least_total": lambda t: (t, 1), "runs_between": lambda t: (t, 0, 1),
    },
    "stretching": {
        "stretches": lambda t: (6, (0, 1, 3)), "set_of": lambda t: (6, [(0, 2), (4, 6)]), "value_stretches": lambda t: (t, 0),
        "most_stretches": lambda t: ("or", 5, 1, 2), "reach": lambda t: ("and", 5, 1, 2), "most_without": lambda t: (5, 1),
        "made_of": lambda t: (3, [(0,), (1, 2)]), "count_made": lambda t: (3, [(0,), (1, 2)]),
    },
    "texts": {
        "table_text": lambda t: (t,), "runs_text": lambda t: (t,), "read_table": lambda t: (table_text(t),),
        "read_runs": lambda t: (runs_text(t),),
    },
    "rising": {
        "rise_together": lambda t: (t, every(t)), "cut_rising": lambda t: (t, every(t)), "fewest_rising": lambda t: (t, (0,)),
        "count_crossing": lambda t: (t, every(t)),
    },
    "moving": {
        "keep_rows": lambda t: (t, 0), "longest_rising": lambda t: (t, 0), "fewest_moves": lambda t: (t, 0),
        "count_kept": lambda t: (t, 0), "sort_moves": lambda t: (t, 0), "nth_kept": lambda t: (t, 0, 0),
    },
    "sloped": {
        "cut_sloped": lambda t: (t, 0), "fewest_sloped": lambda t: (t, 0), "count_sloped": lambda t: (t, 0),
        "differences": lambda t: (t, 0), "nth_sloped": lambda t: (t, 0, 0), "values_sloped": lambda t: ([(0, 2, 3), (4, 0, 1)],),
    },
    "together": {
        "best_groups": lambda t: (t,), "least_grouped": lambda t: (t,), "all_groupings": lambda t: (t,),
        "count_best_groups": lambda t: (t,), "group_runs": lambda t: (t, (0,)), "group_cost": lambda t: (t, every(t)),
        "grouped_cost": lambda t: (t, best_groups(t).groups),
    },
    "allorders": {
        "orders_by_changes": lambda t: (t, prices(t)), "average_changes": lambda t: (t, prices(t)),
        "worst_order": lambda t: (t, prices(t)), "most_changes": lambda t: (t, prices(t)),
        "nth_with_changes": lambda t: (t, prices(t), most_changes(t, prices(t)), 0),
        "changes_index": lambda t: (t, prices(t), tuple(different(t))),
    },
    "keepsorted": {
        "best_within": lambda t: (t, prices(t), last(t)), "least_within": lambda t: (t, prices(t), 0),
        "cheapest_column": lambda t: (t, prices(t)),
    },
    "luck": {
        "spread_of_runs": lambda t: ([2, 1, 3],), "chance_of_few": lambda t: ([1, 2, 3], 1),
        "tables_by_runs": lambda t: (1, (2, 1)), "count_tables": lambda t: (3, (2, 1), 1),
    },
    "repainting": {
        "repaint": lambda t: (t, 0, (len(t) + 1) // 2), "fewest_repaints": lambda t: (t, 0, 1),
        "repaints_by_runs": lambda t: (t, 0),
    },
    "allpages": {
        "page_cost": lambda t: (t, 0, 1, prices(t)), "all_cost": lambda t: (t, prices(t)),
        "sliding": lambda t: (t, 1, prices(t)), "ends_of_most": lambda t: (t, 1, prices(t)), "quiet": lambda t: (t,),
    },
    "thinning": {
        "thin": lambda t: (t, 0, (len(t) + 1) // 2), "fewest_thinned": lambda t: (t, 0, 1),
        "most_thinned": lambda t: (t, 0, 1), "count_thinned": lambda t: (t, 0, (len(t) + 1) // 2),
    },
    "seams": {
        "best_seams": lambda t: (pieces_of(t), prices(t)), "least_seams": lambda t: (pieces_of(t), prices(t)),
        "put_together_best": lambda t: (pieces_of(t), prices(t)),
    },
    "joins": {
        name: lambda t: (in_order(t), in_order(t.turned()))
        for name in ("join_pairs", "join_count", "join_runs", "join_looks", "lonely")
    },
    "rounds": {
        "around_cost": lambda t: (t, prices(t)), "best_begins": lambda t: (t, prices(t)),
        "least_around": lambda t: (t, prices(t)), "turned_to": lambda t: (t, 0), "period": lambda t: (t,),
        "least_turn": lambda t: (t,), "are_one_ring": lambda t: (t, t.turned()), "count_rings": lambda t: (4, 1, 1),
    },
    "ranks": {
        "count_of": lambda t: (t, 0, 1), "far_from": lambda t: (t, 0, 1), "rank_at": lambda t: (t, 0, 1, 1),
        "row_with": lambda t: (t, 0, t[0][0], 0), "nth_value": lambda t: (t, 0, 0), "middles": lambda t: (t, 0),
        "frequent": lambda t: (t, 0), "majority": lambda t: (t, 0),
    },
}
CALLS["joins"]["join_groups"] = lambda t: (in_order(t), in_order(t.turned()), 0, last(t))


def named(file, name):
    """A function or class of the package."""
    return getattr(importlib.import_module(f"runcolumns.{file}"), name)


def is_evidence(held):
    return hasattr(held, "shows")


def written(held):
    """What an answer holds, written so that nothing is the same that is not: types, order of dicts, parts."""
    if isinstance(held, (list, tuple)):
        return type(held).__name__, [written(part) for part in held]
    if isinstance(held, dict):
        return "dict", [(written(key), written(worth)) for key, worth in held.items()]
    if isinstance(held, Table):
        return "Table", written(held.rows)
    if is_evidence(held) or hasattr(held, "journal"):
        return type(held).__name__, written(vars(held))
    return type(held).__name__, held


def lists_in(held):
    """All lists, dicts and evidence in an answer; what never changes is left out."""
    found = []
    if isinstance(held, (list, tuple, dict)):
        for part in held.values() if isinstance(held, dict) else held:
            found += lists_in(part)
    if is_evidence(held):
        for part in vars(held).values():
            found += lists_in(part)
    if isinstance(held, (list, dict)) or is_evidence(held):
        found.append(held)
    return found


def spoil(held):
    """Empty all lists and dicts in an answer, and take away what evidence holds."""
    for part in lists_in(held):
        if is_evidence(part):
            for name in list(vars(part)):
                setattr(part, name, ())
        else:
            part.clear()
