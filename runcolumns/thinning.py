"""Rows of a column kept while the others are dropped, with few runs or with many."""

from runcolumns.common import TOP_VALUE, are_ascending, are_floors, cheapest_path, choices, floors_from, has_boolean
from runcolumns.common import is_number
from runcolumns.errors import BadIndex
from runcolumns.runs import runs_of_values
from runcolumns.tables import checked_column


class Thinned:
    """So many rows with as few runs as possible, and integers of states that show that fewer are not possible."""

    def __init__(self, kept, floors):
        self.kept = tuple(kept)
        self.floors = {state: floors[state] for state in floors}

    def __eq__(self, other):
        return isinstance(other, Thinned) and self.kept == other.kept and self.floors == other.floors

    def shows(self, table, c, many):
        """Whether so many rows are kept, with as many runs as the first state says, and the floors hold."""
        values = checked_values(table, c, many)
        kept, floors = tuple(self.kept), self.floors
        if not are_ascending(kept, 0, len(values) - 1) or len(kept) != many:
            return False
        if has_boolean(floors) or not all([is_state(values, state) for state in floors]):
            return False
        if floors.get((0, many, None)) != count_kept_runs(values, kept):
            return False
        return are_floors(floors, lambda state: next_states(values, state))


def checked_values(table, c, many):
    """The list of the values of a column, if the arguments are right."""
    values = checked_column(table, c)
    if not is_number(many, 1, len(values)):
        raise BadIndex("not an integer from 1 to the number of the rows")
    return values


def count_kept_runs(values, kept):
    """The number of the runs of the values of some rows."""
    return len(runs_of_values([values[index] for index in kept]))


def is_state(values, state):
    """Whether this is a triple of rows considered, rows still to be kept, and the last value kept or None."""
    if not isinstance(state, tuple) or len(state) != 3:
        return False
    considered, more, last = state
    if not is_number(considered, 0, len(values)) or not is_number(more, 0, len(values) - considered):
        return False
    return last is None or is_number(last, 0, TOP_VALUE)


def next_states(values, state):
    """The list of the pairs of a state behind the next row and how many runs begin with that row."""
    considered, more, last = state
    found = []
    if more < len(values) - considered:
        found.append(((considered + 1, more, last), 0))
    if more > 0:
        value = values[considered]
        found.append(((considered + 1, more - 1, value), int(value != last)))
    return found


def thin(table, c, many):
    """A Thinned with so many rows."""
    values = checked_values(table, c, many)
    first = (0, many, None)
    floors = floors_from(first, lambda state: next_states(values, state))
    path = cheapest_path(first, floors, lambda state: next_states(values, state))
    kept = [state[0] for state, then in zip(path, path[1:]) if then[1] < state[1]]
    return Thinned(kept, floors)


def thinned_runs(table, c, many):
    """The list of the numbers of runs of all choices of so many rows."""
    values = checked_values(table, c, many)
    return [count_kept_runs(values, kept) for kept in choices(list(range(len(values)))) if len(kept) == many]


def fewest_thinned(table, c, many):
    """The least number of runs of a choice of so many rows."""
    return min(thinned_runs(table, c, many))


def most_thinned(table, c, many):
    """The greatest number of runs of a choice of so many rows."""
    return max(thinned_runs(table, c, many))


def count_thinned(table, c, many):
    """The list of how many choices of so many rows have 1 run, 2 runs and so on, up to the greatest number."""
    numbers = thinned_runs(table, c, many)
    return [numbers.count(runs) for runs in range(1, max(numbers) + 1)]
