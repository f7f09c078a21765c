"""MARKS, LOOKS and terms: whether things are such of given LINES."""

from anydlooks.plain import all_rows, ascends, is_below, is_number, is_tuple_of
from anydlooks.residues import is_row


def price_of_word(machine, word):
    """The price of the sort; None if the machine does not have it."""
    prices = [price for own, price in machine[2] if own == word]
    return prices[0] if prices else None


def price_of_looks(machine, looks):
    """The sum of the prices of the sorts of the looks."""
    return sum([price_of_word(machine, mark[1]) for mark in looks])


def has_line(thing, many):
    """Whether thing is a tuple that begins with the number of one of so many LINES."""
    return isinstance(thing, tuple) and len(thing) > 1 and is_below(thing[0], many)


def fits_line(machine, line, mark):
    """Whether mark, which begins with the number of this LINE, is a MARK of it."""
    word = mark[1]
    if price_of_word(machine, word) is None:
        return False
    if word == "read":
        if len(mark) != 3 or line[0] != "set":
            return False
        return is_row(mark[2], machine[0], len(line[2])) and any(mark[2])
    return len(mark) == 2 and (word != "pass" or machine[1][line[1]] is not None)


def fit_lines(machine, lines, looks):
    """Whether looks, a tuple, are LOOKS; lines are those by whose numbers they begin."""
    if not all([fits_line(machine, line, mark) for line, mark in zip(lines, looks)]):
        return False
    sorts = [mark[:2] for mark in looks]
    return ascends(sorts)


def is_list_of_terms(thing, prime):
    """Whether thing is a tuple of pairs of something and a RESIDUE other than 0."""
    return isinstance(thing, tuple) and all([_is_term(own, prime) for own in thing])


def _is_term(thing, prime):
    return is_tuple_of(thing, 2) and is_number(thing[1]) and 1 <= thing[1] < prime


def marks_of_line(machine, line, number):
    """The set of the MARKS of this LINE, its number being number."""
    found = []
    for word, _ in machine[2]:
        marks = [(number, word)]
        if word == "read":
            rows = all_rows(machine[0], len(line[2])) if line[0] == "set" else []
            marks = [(number, word, row) for row in rows]
        found.extend([mark for mark in marks if fits_line(machine, line, mark)])
    return tuple(found)
