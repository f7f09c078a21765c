"""Small checks and conversions that the other files share."""


def is_number(thing):
    """True and False are no numbers, though Python takes them for integers."""
    return isinstance(thing, int) and not isinstance(thing, bool)


def is_count(thing):
    """Whether thing is a number from 0."""
    return is_number(thing) and thing >= 0


def is_below(thing, bound):
    """Whether thing is a number from 0 to below bound."""
    return is_number(thing) and 0 <= thing < bound


def is_tuple_of(thing, many):
    """Whether thing is a tuple of so many values."""
    return isinstance(thing, tuple) and len(thing) == many


def is_counts(thing):
    """Whether thing is a tuple of numbers from 0."""
    return isinstance(thing, tuple) and all([is_count(own) for own in thing])


def frozen(value):
    """The value with tuples in the place of lists, at any depth."""
    if isinstance(value, (list, tuple)):
        return tuple([frozen(own) for own in value])
    return value


def ascends(values):
    """Whether values, of kinds that can be compared, ascend without duplicates."""
    return all([values[k] < values[k + 1] for k in range(len(values) - 1)])


def as_set(values):
    """The ascending tuple of the values, which can be members of a set."""
    return tuple(sorted(set(values)))


def power(base, many):
    """base times itself, many times in all."""
    result = 1
    for _ in range(many):
        result *= base
    return result


def all_rows(prime, length):
    """All rows of this length, ascending."""
    rows = [()]
    for _ in range(length):
        rows = [(*row, residue) for row in rows for residue in range(prime)]
    return rows
