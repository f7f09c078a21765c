"""Least and closed grids of all blocks of a program."""

from anydlooks.blocks import BY_PRICE, Pieces
from anydlooks.errors import CanNot
from anydlooks.grids import bits_of, mask_to
from anydlooks.moves import full_view
from anydlooks.pieces import is_table
from anydlooks.plain import ascends, is_tuple_of
from anydlooks.residues import is_row
from anydlooks.rule import asking_length, bad_form, quiet_asking


def table_pieces(machine, most):
    """The Pieces by which the rule makes TABLES of TABLES."""
    return Pieces(machine, full_view(machine), most, BY_PRICE, False)


def tables_of(pieces, grids):
    """The tuple of the TABLES of the grids."""
    return tuple([pieces.places.table(grid) for grid in grids])


def grids_of(pieces, tables):
    """The grids of TABLES."""
    return [pieces.places.grid(pieces.grids, own) for own in tables]


def are_tables(program, most, thing):
    """Whether thing is a tuple with a TABLE to most for each block."""
    if not is_tuple_of(thing, len(program[2])):
        return False
    return all([is_table(program[0], most, own) for own in thing])


def told_entries(dealt, table, form):
    """The set of the ENTRIES from a bad ASKING, of this FORM if it is not None, to nobody's."""
    found = []
    for entry in table:
        own = None if any(entry[1]) else bad_form(dealt, entry[0])
        if own is not None and form in (None, own):
            found.append(entry)
    return tuple(found)


def shield_of(program, most, form):
    """The least tables, if no such ENTRIES are in them; CanNot() otherwise."""
    pieces = table_pieces(program[0], most)
    tables = tables_of(pieces, pieces.least(program[2]))
    if told_entries(program[1], tables[0], form):
        raise CanNot()
    return tables


def are_closed_tables(program, most, thing):
    """Whether thing is a tuple of TABLES, one for each block, and closed to most."""
    if not are_tables(program, most, thing):
        return False
    pieces = table_pieces(program[0], most)
    return pieces.are_closed(program[2], grids_of(pieces, thing))


def is_shield_of(program, most, form, thing):
    """Whether thing is closed tables without such ENTRIES."""
    return are_closed_tables(program, most, thing) and not told_entries(program[1], thing[0], form)


# RELATIONS are kept as grids with one mask each, at price 0.


def relation_pieces(machine, view):
    """The Pieces by which the rule makes RELATIONS of RELATIONS, by the marks that a view lets."""
    free = tuple([tuple([(word, 0) for word, _ in own]) for own in view])
    return Pieces(machine, free, 0, BY_PRICE, False)


def relations_of(pieces, grids):
    """The tuple of the RELATIONS of the grids."""
    return tuple([relation_of(pieces.places, grid) for grid in grids])


def relation_of(places, grid):
    """The set of the pairs (ahead, behind) of a grid."""
    found = []
    for behind, row in zip(places.askings, grid):
        found.extend([(places.askings[place], behind) for place in bits_of(mask_to(row, None))])
    return tuple(sorted(found))


def least_relations_of(program, view):
    """The least RELATIONS."""
    pieces = relation_pieces(program[0], view)
    return relations_of(pieces, pieces.least(program[2]))


def are_relations_of(program, thing):
    """Whether thing is a tuple with a set of pairs of ASKINGS for each block."""
    if not is_tuple_of(thing, len(program[2])):
        return False
    return all([_is_relation(program[0], own) for own in thing])


def _is_relation(machine, thing):
    if not isinstance(thing, tuple) or not all([_is_pair(machine, own) for own in thing]):
        return False
    return ascends(thing)


def _is_pair(machine, thing):
    return is_tuple_of(thing, 2) and all([is_row(own, machine[0], asking_length(machine)) for own in thing])


def are_closed_pairs(program, pieces, thing):
    """Whether thing is a tuple with a set of pairs for each block, and closed by the Pieces."""
    if not are_relations_of(program, thing):
        return False
    return pieces.are_closed(program[2], grids_of(pieces, [[(*own, 0) for own in pairs] for pairs in thing]))


def are_closed_relations(program, view, thing):
    """Whether thing is a tuple with a RELATION for each block, and closed."""
    return are_closed_pairs(program, relation_pieces(program[0], view), thing)


def has_telling(program, relation):
    """Whether a RELATION has a pair of a bad ASKING and nobody's."""
    quiet = quiet_asking(program[0])
    return any([behind == quiet and bad_form(program[1], ahead) is not None for ahead, behind in relation])


def is_quiet(program, view, thing):
    """Whether thing is closed RELATIONS in which block 0 tells nothing."""
    return are_closed_relations(program, view, thing) and not has_telling(program, thing[0])
