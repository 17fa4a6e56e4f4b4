"""Columns with some values changed, so that they have few runs."""

from runcolumns.common import TOP_VALUE, are_numbers, has_boolean, is_number
from runcolumns.errors import BadSizes
from runcolumns.runs import runs_of_values
from runcolumns.tables import checked_column


class Repainted:
    """A column with few runs and few values changed, and how few must be changed from each state on."""

    def __init__(self, cells, floors):
        self.cells = tuple(cells)
        self.floors = {state: floors[state] for state in floors}

    def __eq__(self, other):
        return isinstance(other, Repainted) and self.cells == other.cells and self.floors == other.floors

    def shows(self, table, place, runs):
        """Whether the dict has the integers of all states, and the column as few changes and runs as it must."""
        values = checked_values(table, place, runs)
        floors = all_floors(values, runs)
        if has_boolean(list(self.floors.items())) or self.floors != floors:
            return False
        cells = tuple(self.cells)
        if not are_numbers(cells, 0, TOP_VALUE) or len(cells) != len(values) or len(runs_of_values(cells)) > runs:
            return False
        return rows_changed(values, cells) == floors[(0, runs, None)]


def checked_values(table, place, runs):
    """The list of the values of a column, if the arguments are right."""
    values = checked_column(table, place)
    if not is_number(runs, 1, len(values)):
        raise BadSizes("not an integer from 1 to the number of the rows")
    return values


def rows_changed(values, cells):
    """The number of the rows in which two columns differ."""
    return len([index for index, value in enumerate(values) if cells[index] != value])


def next_states(values, state):
    """The list of the states that can come after a state, by ascending values of the next row."""
    decided, more, last = state
    found = []
    if decided == len(values):
        return found
    for value in sorted(set(values)):
        if value == last:
            found.append((decided + 1, more, value))
        elif more > 0:
            found.append((decided + 1, more - 1, value))
    return found


def cost_by(values, floors, state):
    """The number of the rows that must be changed from the row on that a state has decided last."""
    decided, _, value = state
    return floors[state] + int(value != values[decided - 1])


def all_floors(values, runs):
    """The dict from all states to the smallest number of the remaining rows that must be changed."""
    colors, floors = sorted(set(values)), {}
    # Later states come first, so that what follows a state is known already.
    for decided in reversed(range(1, len(values) + 1)):
        for more in range(runs):
            for value in colors:
                floors[(decided, more, value)] = least_from(values, floors, (decided, more, value))
    floors[(0, runs, None)] = least_from(values, floors, (0, runs, None))
    return floors


def least_from(values, floors, state):
    """The smallest number of the remaining rows that must be changed, from the numbers of the next states."""
    return min([cost_by(values, floors, after) for after in next_states(values, state)], default=0)


def fewest_changed(values, runs):
    """In how few rows a column with at most so many runs can differ from a column."""
    return all_floors(values, runs)[(0, runs, None)]


def repainted_cells(values, runs, floors):
    """The first column that has at most so many runs and differs in as few rows as possible."""
    state, cells = (0, runs, None), ()
    while len(cells) < len(values):
        afters = next_states(values, state)
        state = [after for after in afters if cost_by(values, floors, after) == floors[state]][0]
        cells = cells + (state[2],)
    return cells


def repaint(table, place, runs):
    """A Repainted with a column that has at most so many runs."""
    values = checked_values(table, place, runs)
    floors = all_floors(values, runs)
    return Repainted(repainted_cells(values, runs, floors), floors)


def fewest_repaints(table, place, runs):
    """In how few rows a column with at most so many runs differs."""
    return fewest_changed(checked_values(table, place, runs), runs)


def repaints_by_runs(table, place):
    """The list of the least numbers of rows for at most 1 run, 2 runs and so on."""
    values = checked_column(table, place)
    return [fewest_changed(values, runs) for runs in range(1, len(values) + 1)]
