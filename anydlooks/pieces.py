"""TABLES of pieces of programs: at which least prices ASKINGS go through them."""

from anydlooks.blocks import BY_PRICE, Pieces, Places, places_of
from anydlooks.grids import Grids
from anydlooks.moves import full_view
from anydlooks.plain import as_set, ascends, frozen, is_below, is_tuple_of
from anydlooks.residues import is_row
from anydlooks.rule import ahead_of, asking_length, line_choices, quiet_asking, with_added
from anydlooks.ways import line_of_item


def is_table(machine, most, thing):
    """Whether thing is a TABLE to most."""
    machine = frozen(machine)
    if not isinstance(thing, tuple) or not all([_is_entry(machine, most, own) for own in thing]):
        return False
    return ascends([own[:2] for own in thing])


def _is_entry(machine, most, thing):
    length = asking_length(machine)
    if not is_tuple_of(thing, 3) or not is_below(thing[2], most + 1):
        return False
    return is_row(thing[0], machine[0], length) and is_row(thing[1], machine[0], length)


def price_in(table, ahead, behind):
    """The price of ahead and behind; None if there is no such ENTRY."""
    wanted = (frozen(ahead), frozen(behind))
    found = [own[2] for own in frozen(table) if own[:2] == wanted]
    return found[0] if found else None


def asked_ahead(table, behind):
    """The ascending list of the pairs of what is asked ahead, and its price."""
    behind = frozen(behind)
    return sorted([(own[0], own[2]) for own in frozen(table) if own[1] == behind])


def _pieces(machine, most):
    return Pieces(machine, full_view(machine), most, BY_PRICE, False)


def line_table(machine, item, most):
    """The TABLE of the LINE of a set or a draw."""
    pieces = _pieces(frozen(machine), most)
    return pieces.places.table(pieces.line(line_of_item(frozen(item))))


def still_table(machine):
    """The TABLE of the WAY ()."""
    places = places_of(frozen(machine))
    return places.table(Grids(len(places.askings), 1, None).still())


def _places_in(tables):
    """The Places of the ASKINGS that stand in the tables."""
    return Places(as_set([asking for table in tables for own in table for asking in own[:2]]))


def joined(one, other, most):
    """The TABLE of a piece with the TABLE one and then one with other."""
    one, other = frozen(one), frozen(other)
    places = _places_in((one, other))
    grids = Grids(len(places.askings), 1, most)
    return places.table(grids.joined(places.grid(grids, one), places.grid(grids, other)))


def least_of(tables):
    """The TABLE of what any of the tables has, at the least price."""
    found = {}
    for table in frozen(tables):
        for ahead, behind, price in table:
            key = (ahead, behind)
            found[key] = min(price, found.get(key, price))
    return tuple(sorted([(*pair, found[pair]) for pair in found]))


def many_table(machine, table, most):
    """The TABLE of none, one or more pieces with this TABLE."""
    places = places_of(frozen(machine))
    grids = Grids(len(places.askings), 1, most)
    return places.table(grids.many(places.grid(grids, frozen(table))))


def times_table(machine, table, many, most):
    """The TABLE of just so many pieces with this TABLE."""
    places = places_of(frozen(machine))
    grids = Grids(len(places.askings), 1, most)
    return places.table(grids.times(places.grid(grids, frozen(table)), many))


def kept_table(machine, kept, most):
    """The set of the quadruples (added, ahead, behind, price) of the put backs of kept registers."""
    machine, kept = frozen(machine), frozen(kept)
    found = []
    for behind in places_of(machine).askings:
        states = {(quiet_asking(machine), behind): 0}
        for slot in reversed(kept):
            states = _ahead_of_back(machine, slot, states, most)
        found.extend([(added, ahead, behind, price) for (added, ahead), price in states.items()])
    return tuple(sorted(found))


def _ahead_of_back(machine, slot, states, most):
    """The least prices, by what is added and what is asked, ahead of one put back."""
    line, found = ("back", slot, 0), {}
    choices = line_choices(machine, line, 0)
    for (added, behind), worth in states.items():
        for seen, price, _ in choices:
            if worth + price <= most:
                ahead, wanted = ahead_of(machine, line, behind, seen)
                key = (with_added(machine[0], added, [(slot, wanted)]), ahead)
                found[key] = min(worth + price, found.get(key, worth + price))
    return found


def call_table(machine, kept, table, most):
    """The TABLE of a call of a block with this TABLE, with its put backs."""
    pieces = _pieces(frozen(machine), most)
    grid = pieces.places.grid(pieces.grids, frozen(table))
    return pieces.places.table(pieces.call(frozen(kept), grid))


def way_table(program, way, tables, most):
    """The TABLE of a WAY, tables having one TABLE for each block."""
    pieces = _pieces(frozen(program)[0], most)
    grids = [pieces.places.grid(pieces.grids, own) for own in frozen(tables)]
    return pieces.places.table(pieces.way(frozen(way), grids))
