"""Sets of rows as stretches, combined by words, and all sets that words can make of given ones."""

from runcolumns.common import are_ascending, choices, has_boolean, is_listing, is_number, stretches_in
from runcolumns.errors import BadSet, BadSets, BadSizes, TooLarge
from runcolumns.tables import MOST_ROWS, checked_column

MOST_SETS = 4
MOST_MADE_ROWS = 6
WORD_LENGTHS = {"set": 2, "not": 2, "and": 3, "or": 3}


class Reached:
    """Two sets whose combination has as many stretches as possible."""

    def __init__(self, one, other):
        self.one = tuple(one)
        self.other = tuple(other)

    def __eq__(self, other):
        return isinstance(other, Reached) and self.one == other.one and self.other == other.other

    def shows(self, word, many, first, last):
        """Whether the sets have these numbers of stretches, and their combination the greatest number."""
        most = most_stretches(word, many, first, last)
        one, other = tuple(self.one), tuple(self.other)
        if not are_rows(many, one) or not are_rows(many, other):
            return False
        if count_stretches(one) != first or count_stretches(other) != last:
            return False
        return count_stretches(combined(word, one, other)) == most


class Made:
    """A word for each set that can be made of given sets."""

    def __init__(self, words):
        self.words = {key: words[key] for key in words}

    def __eq__(self, other):
        return isinstance(other, Made) and self.words == other.words

    def shows(self, many, sets):
        """Whether the dict has exactly the sets that can be made, each with a word that makes it."""
        check_sets(many, sets)
        if has_boolean(list(self.words)) or sorted(list(self.words)) != sorted(sets_made(many, sets)):
            return False
        return all([set_of_word(many, sets, word) == made for made, word in self.words.items()])


def check_many(many):
    """Raise BadSizes if this is no number of rows."""
    if not is_number(many, 1, MOST_ROWS):
        raise BadSizes("not a number of rows")


def are_rows(many, some):
    """Whether this is a set of so many rows."""
    return are_ascending(some, 0, many - 1)


def check_sets(many, sets):
    """Raise the first error that is named, if words cannot be made of these sets of so many rows."""
    check_many(many)
    if not is_listing(sets, 1, MOST_SETS):
        raise BadSets(None)
    for index, some in enumerate(sets):
        if not are_rows(many, some):
            raise BadSets(index)
    if many > MOST_MADE_ROWS:
        raise TooLarge("more than six rows")


def check_number_of_stretches(many, number):
    """Raise BadSizes if sets of so many rows cannot have this number of stretches."""
    if not is_number(number, 0, (many + 1) // 2):
        raise BadSizes("not a number of stretches")


def stretches(many, some):
    """The list of the stretches of a set of rows."""
    check_many(many)
    if not are_rows(many, some):
        raise BadSet("not a set of rows")
    return stretches_in(some)


def are_stretches(many, pieces):
    """Whether these are the stretches of a set, in order."""
    if not isinstance(pieces, (list, tuple)):
        return False
    if not all([isinstance(piece, tuple) and len(piece) == 2 for piece in pieces]):
        return False
    # A stretch begins behind the row that follows the stretch before it.
    return are_ascending(tuple([end for piece in pieces for end in piece]), 0, many)


def set_of(many, pieces):
    """The set with some stretches."""
    check_many(many)
    if not are_stretches(many, pieces):
        raise BadSet("not the stretches of a set of rows")
    return tuple([index for first, past in pieces for index in range(first, past)])


def value_stretches(table, place):
    """The dict from the values of a column to the lists of the stretches of the rows that have them."""
    values = checked_column(table, place)
    every = range(len(values))
    return {value: stretches_in([at for at in every if values[at] == value]) for value in sorted(set(values))}


def count_stretches(some):
    """The number of the stretches of a set."""
    return len(stretches_in(some))


def combined(word, one, other):
    """The combination of two sets by a word."""
    if word == "and":
        return tuple([index for index in one if index in other])
    return tuple(sorted(set(one + other)))


def check_reach(word, many, first, last):
    """Raise the first error that is named, if two sets cannot be combined like this."""
    if not isinstance(word, str) or word not in ("and", "or"):
        raise BadSet("neither of the two words")
    check_many(many)
    check_number_of_stretches(many, first)
    check_number_of_stretches(many, last)


def longer_pairs(word, pairs, row):
    """The pairs of sets with one row more, of those that are alike only one with the most stretches combined.

    Pairs are alike if they have equal numbers of stretches and go on alike, having the row or not.
    """
    longer = {}
    for one, other in pairs:
        with_one, with_other = one + (row,), other + (row,)
        for pair in ((one, other), (with_one, other), (one, with_other), (with_one, with_other)):
            numbers = (count_stretches(pair[0]), count_stretches(pair[1]))
            key = (numbers, row in pair[0], row in pair[1])
            gained = count_stretches(combined(word, pair[0], pair[1]))
            if key not in longer or longer[key][0] < gained:
                longer[key] = (gained, pair, numbers)
    return longer


def most_reached(word, many, first, last):
    """The greatest number of stretches, and two sets that have it combined."""
    pairs, found = [((), ())], {}
    for row in range(many):
        found = longer_pairs(word, pairs, row)
        pairs = [pair for gained, pair, numbers in found.values()]
    reached = [(gained, pair) for gained, pair, numbers in found.values() if numbers == (first, last)]
    return max(reached)


def most_stretches(word, many, first, last):
    """The greatest number of stretches of two sets with so many stretches, combined by a word."""
    check_reach(word, many, first, last)
    return most_reached(word, many, first, last)[0]


def reach(word, many, first, last):
    """A Reached with two sets with so many stretches."""
    check_reach(word, many, first, last)
    one, other = most_reached(word, many, first, last)[1]
    return Reached(one, other)


def most_without(many, first):
    """The greatest number of stretches of the rows that are not in a set with so many stretches."""
    check_many(many)
    check_number_of_stretches(many, first)
    # There is a stretch between any two, and there may be one at either end if rows are left for it.
    return min(first + 1, many - first)


def atoms_with_words(many, sets):
    """The dict from the sets of rows that are in the same given sets to words for them."""
    atoms = {}
    for index in range(many):
        within = tuple([index in some for some in sets])
        atoms[within] = atoms.get(within, ()) + (index,)
    return {atoms[within]: word_for(within) for within in atoms}


def word_for(within):
    """The word for the rows that are in some of the given sets and not in the others."""
    parts = [("set", at) if held else ("not", ("set", at)) for at, held in enumerate(within)]
    return joined_words("and", parts)


def joined_words(sign, parts):
    """The word that combines some words by and or by or."""
    word = parts[0]
    for part in parts[1:]:
        word = (sign, word, part)
    return word


def sets_made(many, sets):
    """The list of all sets that can be made, in order of length, then as tuples."""
    return list(words_made(many, sets))


def words_made(many, sets):
    """The dict from all sets that can be made to words for them, in order of length, then as tuples."""
    atoms = atoms_with_words(many, sets)
    found = {}
    for some in choices(sorted(list(atoms))):
        rows = tuple(sorted([index for atom in some for index in atom]))
        found[rows] = ("and", ("set", 0), ("not", ("set", 0)))
        if some:
            found[rows] = joined_words("or", [atoms[atom] for atom in some])
    return {made: found[made] for made in sorted(sorted(list(found)), key=len)}


def made_of(many, sets):
    """A Made with a word for each set that can be made of the given sets."""
    check_sets(many, sets)
    return Made(words_made(many, sets))


def count_made(many, sets):
    """How many sets can be made of the given sets."""
    check_sets(many, sets)
    return len(sets_made(many, sets))


def is_word(word, many_sets):
    """Whether this has the form of a word, without a look at the words inside it."""
    if not isinstance(word, tuple) or not word or not isinstance(word[0], str):
        return False
    sign = word[0]
    if WORD_LENGTHS.get(sign) != len(word):
        return False
    return sign != "set" or is_number(word[1], 0, many_sets - 1)


def set_of_word(many, sets, word):
    """The set that a word makes, or None if it is no word."""
    waiting, parts = [word], []
    while waiting:
        part = waiting.pop()
        if not is_word(part, len(sets)):
            return None
        parts.append(part)
        if part[0] != "set":
            waiting.extend(list(part[1:]))
    # Words may be nested deeply, so they are worked off from the inmost ones on.
    made = []
    for part in parts[::-1]:
        made.append(set_of_part(many, sets, part, made))
    return made[0]


def set_of_part(many, sets, part, made):
    """The set that a word makes of the sets made last, which are taken away."""
    if part[0] == "set":
        return sets[part[1]]
    some = made.pop()
    if part[0] == "not":
        return tuple([index for index in range(many) if index not in some])
    return combined(part[0], some, made.pop())
