"""TABLES of pieces of programs: at which least prices ASKINGS go through them."""

from anydlooks.grids import (
    Places, call_grid, joined_grid, line_grid, many_grid, places_of, times_grid, way_grid,
)
from anydlooks.plain import as_set, ascends, frozen, is_below, is_tuple_of
from anydlooks.residues import is_row
from anydlooks.rule import ahead_of, asking_length, line_choices, quiet_asking, with_added
from anydlooks.ways import line_of_item


def is_table(machine, most, thing):
    """Whether thing is a TABLE to most."""
    machine = frozen(machine)
    if not isinstance(thing, tuple) or not all([_is_entry(machine, most, own) for own in thing]):
        return False
    return ascends([own[:2] for own in thing])


def _is_entry(machine, most, thing):
    length = asking_length(machine)
    if not is_tuple_of(thing, 3) or not is_below(thing[2], most + 1):
        return False
    return is_row(thing[0], machine[0], length) and is_row(thing[1], machine[0], length)


def price_in(table, ahead, behind):
    """The price of ahead and behind; None if there is no such ENTRY."""
    wanted = (frozen(ahead), frozen(behind))
    found = [own[2] for own in frozen(table) if own[:2] == wanted]
    return found[0] if found else None


def asked_ahead(table, behind):
    """The ascending list of the pairs of what is asked ahead, and its price."""
    behind = frozen(behind)
    return sorted([(own[0], own[2]) for own in frozen(table) if own[1] == behind])


def line_table(machine, item, most):
    """The TABLE of the LINE of a set or a draw."""
    machine = frozen(machine)
    places = places_of(machine)
    return places.table(line_grid(machine, places, line_of_item(frozen(item)), most))


def still_table(machine):
    """The TABLE of the WAY ()."""
    places = places_of(frozen(machine))
    return places.table(places.still_grid(0))


def _places_in(tables):
    """The Places of the ASKINGS that stand in the tables."""
    return Places(as_set([asking for table in tables for own in table for asking in own[:2]]))


def joined(one, other, most):
    """The TABLE of a piece with the TABLE one and then one with other."""
    one, other = frozen(one), frozen(other)
    places = _places_in((one, other))
    return places.table(joined_grid(places.grid(one, most), places.grid(other, most)))


def least_of(tables):
    """The TABLE of what any of the tables has, at the least price."""
    found = {}
    for table in frozen(tables):
        for ahead, behind, price in table:
            key = (ahead, behind)
            found[key] = min(price, found.get(key, price))
    return tuple(sorted([(*pair, found[pair]) for pair in found]))


def many_table(machine, table, most):
    """The TABLE of none, one or more pieces with this TABLE."""
    places = places_of(frozen(machine))
    return places.table(many_grid(places.still_grid(most), places.grid(frozen(table), most)))


def times_table(machine, table, many, most):
    """The TABLE of just so many pieces with this TABLE."""
    places = places_of(frozen(machine))
    return places.table(times_grid(places.still_grid(most), places.grid(frozen(table), most), many))


def kept_table(machine, kept, most):
    """The set of the quadruples (added, ahead, behind, price) of the put backs of kept registers."""
    machine, kept = frozen(machine), frozen(kept)
    found = []
    for behind in places_of(machine).askings:
        states = {(quiet_asking(machine), behind): 0}
        for slot in reversed(kept):
            states = _ahead_of_back(machine, slot, states, most)
        found.extend([(added, ahead, behind, price) for (added, ahead), price in states.items()])
    return tuple(sorted(found))


def _ahead_of_back(machine, slot, states, most):
    """The least prices, by what is added and what is asked, ahead of one put back."""
    line, found = ("back", slot, 0), {}
    choices = line_choices(machine, line, 0)
    for (added, behind), worth in states.items():
        for seen, price, _ in choices:
            if worth + price <= most:
                ahead, wanted = ahead_of(machine, line, behind, seen)
                key = (with_added(machine[0], added, [(slot, wanted)]), ahead)
                found[key] = min(worth + price, found.get(key, worth + price))
    return found


def call_table(machine, kept, table, most):
    """The TABLE of a call of a block with this TABLE, with its put backs."""
    machine = frozen(machine)
    places = places_of(machine)
    return places.table(call_grid(machine, places, frozen(kept), places.grid(frozen(table), most), most))


def way_table(program, way, tables, most):
    """The TABLE of a WAY, tables having one for each block."""
    machine = frozen(program)[0]
    places = places_of(machine)
    grids = [places.grid(own, most) for own in frozen(tables)]
    return places.table(way_grid(machine, places, frozen(way), grids, most))
