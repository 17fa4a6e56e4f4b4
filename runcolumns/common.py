"""What several files share: tests of plain values, rows, and their distances."""

from math import gcd

MOST_WIDTH = 4
TOP_VALUE = 6


def is_number(number, low, high):
    """Whether this is an integer within the two limits; True and False are none."""
    return isinstance(number, int) and not isinstance(number, bool) and low <= number <= high


def are_numbers(numbers, low, high):
    """Whether this is a tuple, possibly empty, of integers within the two limits."""
    return isinstance(numbers, tuple) and all([is_number(number, low, high) for number in numbers])


def are_ascending(numbers, low, high):
    """Whether this is a tuple of integers within the limits, each greater than the one before."""
    if not are_numbers(numbers, low, high):
        return False
    return all([first < second for first, second in zip(numbers, numbers[1:])])


def is_listing(items, least, most):
    """Whether this is a list or tuple of so many items."""
    return isinstance(items, (list, tuple)) and least <= len(items) <= most


def is_row(row):
    """Whether this is a tuple of one to four values."""
    return are_numbers(row, 0, TOP_VALUE) and 1 <= len(row) <= MOST_WIDTH


def is_order(order, many):
    """Whether this is a tuple that contains each index below many once."""
    return are_numbers(order, 0, many - 1) and sorted(order) == list(range(many))


def has_boolean(held):
    """Whether True or False stands in some evidence, where it would be equal to 1 or 0."""
    if isinstance(held, dict):
        return has_boolean(list(held.items()))
    if isinstance(held, (list, tuple)):
        return any([has_boolean(part) for part in held])
    return isinstance(held, bool)


def differing(one, other):
    """The number of columns in which two rows differ."""
    return len([at for at in range(len(one)) if one[at] != other[at]])


def distance(one, other, prices):
    """The sum of the prices of the columns in which two rows differ."""
    return sum([price for at, price in enumerate(prices) if one[at] != other[at]])


def adjacent_distances(rows, prices):
    """The sum of the distances of all adjacent rows."""
    return sum([distance(one, other, prices) for one, other in zip(rows, rows[1:])])


def lowest_terms(numerator, denominator):
    """The pair of a numerator and a denominator, both without what divides both."""
    shared = gcd(numerator, denominator)
    return numerator // shared, denominator // shared


def without(parts, left_out):
    """The tuple of the parts other than one of them."""
    return tuple([part for part in parts if part != left_out])


def choices(parts):
    """All ascending tuples of some of the ascending parts, in order of length, then as tuples."""
    found = [()]
    for part in parts:
        found = found + [choice + (part,) for choice in found]
    return sorted(sorted(found), key=len)


def stretches_in(indices):
    """The list of the pairs (first, past) of the neighbours among ascending indices."""
    found = []
    for index in indices:
        if found and found[-1][1] == index:
            found[-1] = (found[-1][0], index + 1)
        else:
            found.append((index, index + 1))
    return found


def picked(many, index):
    """Which of some parts, with so many members each, an index falls into, and the index within that part."""
    at = 0
    while index >= many[at]:
        index -= many[at]
        at += 1
    return at, index


def count_ways(before):
    """For each of some numbered places, how many ways lead there from the first one.

    A way goes on from each place to a later one; before has, for each place, the places right before it.
    """
    many = [1]
    for places in before[1:]:
        many.append(sum([many[place] for place in places]))
    return many


def way_at(before, index):
    """The way to the last place with an index, without that place.

    Ways are ordered by the places right before the last one, then by those before these, and so on.
    """
    many = count_ways(before)
    way, place = (), len(before) - 1
    while place > 0:
        at, index = picked([many[earlier] for earlier in before[place]], index)
        place = before[place][at]
        way = (place,) + way
    return way


def floors_from(first, nexts):
    """The dict from the first state and all that can come after it to the least cost of going on to an end.

    nexts gives, for a state, the list of the pairs of a state right after it and what going there costs. All ways
    to a state have the same number of steps.
    """
    layers = [[first]]
    while layers[-1]:
        after = {then: True for state in layers[-1] for then, step in nexts(state)}
        layers.append(list(after))
    floors = {}
    for layer in layers[::-1]:
        for state in layer:
            floors[state] = min([step + floors[then] for then, step in nexts(state)], default=0)
    return floors


def cheapest_path(first, floors, nexts):
    """The list of the states of a cheapest way from the first one to an end, by such a dict."""
    path = [first]
    while nexts(path[-1]):
        least = floors[path[-1]]
        path.append([then for then, step in nexts(path[-1]) if step + floors[then] == least][0])
    return path


def are_floors(floors, nexts):
    """Whether no integer of a state is greater than what going on costs, and all states that come next are there."""
    for state, floor in floors.items():
        afters = nexts(state)
        if not afters and floor > 0:
            return False
        if any([then not in floors or floor > step + floors[then] for then, step in afters]):
            return False
    return True
