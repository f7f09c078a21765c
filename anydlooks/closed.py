"""Least tables of blocks: at which least prices ASKINGS go through all RUNS of them."""

from anydlooks.closures import (
    are_closed_tables, grids_of, is_shield_of, shield_of, table_pieces, tables_of, told_entries,
)
from anydlooks.errors import NoBlock
from anydlooks.joint import Joint
from anydlooks.moves import full_view
from anydlooks.plain import frozen, is_below
from anydlooks.prices import nothing_told


def made_of(program, tables, most):
    """What the rule makes of tables."""
    program = frozen(program)
    pieces = table_pieces(program[0], most)
    return tables_of(pieces, pieces.made(program[2], grids_of(pieces, frozen(tables))))


def deep_tables(program, most, many):
    """What tables without ENTRIES become, gone over so many times."""
    program = frozen(program)
    pieces = table_pieces(program[0], most)
    return tables_of(pieces, pieces.gone_over(program[2], many)[0])


def closed_tables(program, most):
    """The least tables."""
    program = frozen(program)
    pieces = table_pieces(program[0], most)
    return tables_of(pieces, pieces.least(program[2]))


def closing(program, most):
    """How many times tables without ENTRIES are gone over until they are the least tables."""
    program = frozen(program)
    return table_pieces(program[0], most).gone_over(program[2], None)[1]


def are_closed(program, most, thing):
    """Whether thing is a tuple of TABLES, one for each block, and closed to most."""
    return are_closed_tables(frozen(program), most, thing)


def block_price(program, number, ahead, behind, most):
    """The price of (ahead, behind) in the least TABLE of this block; None without."""
    program, ahead = frozen(program), frozen(ahead)
    if not is_below(number, len(program[2])):
        raise NoBlock(number)
    joint = Joint(program, full_view(program[0]), 1, most)
    state = joint.digits.number(ahead)
    prices = [price for price, mask in joint.all_ahead(number, joint.digits.number(behind)) if mask >> state & 1]
    return prices[0] if prices else None


def bad_entries(program, table):
    """The set of the ENTRIES of the TABLE from a bad ASKING to nobody's."""
    return told_entries(frozen(program)[1], frozen(table), None)


def withstands(program, most):
    """Whether for all RUNS no LOOKS of a price of at most most tell."""
    return nothing_told(frozen(program), most)


def shield(program, most):
    """The least tables, if they are a shield."""
    return shield_of(frozen(program), most, None)


def is_shield(program, most, thing):
    """Whether thing is a shield to most."""
    return is_shield_of(frozen(program), most, None, thing)
