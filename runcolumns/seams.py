"""Pieces of a table put together, turned or not, with cheap seams."""

from runcolumns.common import are_ascending, are_floors, cheapest_path, distance, floors_from, has_boolean, is_listing
from runcolumns.common import is_order, is_row, without
from runcolumns.errors import BadPieces, TooLarge
from runcolumns.tables import MOST_ROWS, Table, check_prices

MOST_PIECES = 6


class Seamed:
    """A plan with the cheapest seams, and integers of states that show that cheaper ones are not possible."""

    def __init__(self, plan, floors):
        self.plan = list(plan)
        self.floors = {state: floors[state] for state in floors}

    def __eq__(self, other):
        return isinstance(other, Seamed) and self.plan == other.plan and self.floors == other.floors

    def shows(self, pieces, prices):
        """Whether this is a plan whose seams cost as much as the first state says, and the floors hold."""
        check_priced_pieces(pieces, prices)
        plan, floors = self.plan, self.floors
        if not is_plan(pieces, plan):
            return False
        if has_boolean(floors) or not all([is_state(pieces, state) for state in floors]):
            return False
        if floors.get(first_state(pieces)) != seams_cost(pieces, plan, prices):
            return False
        return are_floors(floors, lambda state: next_states(pieces, prices, state))


def check_pieces(pieces):
    """Raise BadPieces or TooLarge if these are no pieces, or too large together."""
    if not is_listing(pieces, 1, MOST_PIECES):
        raise BadPieces(None)
    for index, piece in enumerate(pieces):
        if not isinstance(piece, Table) or piece.width != pieces[0].width:
            raise BadPieces(index)
    if sum([len(piece) for piece in pieces]) > MOST_ROWS:
        raise TooLarge("more than ten rows together")


def check_priced_pieces(pieces, prices):
    """Raise the first error that is named, if these are no pieces, or no prices for them."""
    check_pieces(pieces)
    check_prices(pieces[0], prices)


def is_choice(choice):
    """Whether this is a pair whose second part is a boolean."""
    return isinstance(choice, tuple) and len(choice) == 2 and isinstance(choice[1], bool)


def is_plan(pieces, plan):
    """Whether this has each piece once, turned or not."""
    if not all([is_choice(choice) for choice in plan]):
        return False
    return is_order(tuple([index for index, turned in plan]), len(pieces))


def is_state(pieces, state):
    """Whether this is a pair of the ascending tuple of the remaining pieces and the last row so far or None."""
    if not isinstance(state, tuple) or len(state) != 2 or not are_ascending(state[0], 0, len(pieces) - 1):
        return False
    return state[1] is None or is_row(state[1]) and len(state[1]) == pieces[0].width


def first_state(pieces):
    """The state in which all pieces remain."""
    return tuple(range(len(pieces))), None


def rows_of(pieces, index, turned):
    """The tuple of the rows of a piece, turned or not."""
    if turned:
        return pieces[index].rows[::-1]
    return pieces[index].rows


def planned_rows(pieces, plan):
    """The list of the tuples of the rows of all pieces, as they are planned."""
    return [rows_of(pieces, index, turned) for index, turned in plan]


def seams_cost(pieces, plan, prices):
    """What the seams of a plan cost together."""
    parts = planned_rows(pieces, plan)
    return sum([distance(one[-1], other[0], prices) for one, other in zip(parts, parts[1:])])


def next_states(pieces, prices, state):
    """The list of the pairs of a state with one piece less remaining and what the seam costs."""
    remaining, last = state
    found = []
    for index in remaining:
        for turned in (False, True):
            rows = rows_of(pieces, index, turned)
            seam = 0 if last is None else distance(last, rows[0], prices)
            found.append(((without(remaining, index), rows[-1]), seam))
    return found


def choice_between(pieces, state, then):
    """The pair of the piece that is appended from one state to the next, and whether it is turned."""
    gone = [index for index in state[0] if index not in then[0]][0]
    # A piece that ends with its first row begins with its last row, so its seams cost the same if it is not turned.
    return gone, pieces[gone].rows[-1] != then[1]


def best_seams(pieces, prices):
    """A Seamed with a plan whose seams are as cheap as possible."""
    check_priced_pieces(pieces, prices)
    first = first_state(pieces)
    floors = floors_from(first, lambda state: next_states(pieces, prices, state))
    path = cheapest_path(first, floors, lambda state: next_states(pieces, prices, state))
    return Seamed([choice_between(pieces, state, then) for state, then in zip(path, path[1:])], floors)


def least_seams(pieces, prices):
    """The least total cost of seams."""
    found = best_seams(pieces, prices)
    return found.floors[first_state(pieces)]


def put_together_best(pieces, prices):
    """The table of a plan whose seams are as cheap as possible."""
    found = best_seams(pieces, prices)
    return Table([row for rows in planned_rows(pieces, found.plan) for row in rows])
